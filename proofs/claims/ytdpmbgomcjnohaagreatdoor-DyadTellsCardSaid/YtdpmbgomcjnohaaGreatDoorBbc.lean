/- Regions that draw their order: the law. -/
import Derived.Test.YtdpmbgomcjnohaaGreatDoorBbb

namespace Go.Proofs.YtdpmbgomcjnohaaGreatDoor.Rf
open Go Go.RowKit Go.Proofs.YtdpmbgomcjnohaaGreatDoor.Pl
set_option linter.all false
set_option maxRecDepth 100000
set_option maxHeartbeats 8000000
def pR:List Nat→Nat→Nat
 | [],_=>0
 | x::_,0=>x
 | _::l,n+1=>pR l n
def upto (A:Nat) (kJ:List Nat):Nat→Nat
 | 0=>A
 | j+1=>match tb A j with
  | true=>Nat.lor (upto A kJ j) (pR kJ j)
  | false=>upto A kJ j
def Et (kJ:List Nat):List Nat→List Nat→Nat→Bool
 | [],[],_=>true
 | A::ts,c::cs,i=>Nat.beq c (upto A kJ i)&&(Nat.beq (Nat.shiftRight A i) 0&&Et kJ ts cs (i+1))
 | _,_,_=>false
def Dwn (T:List Nat) (M:Nat):Prop:=∀ (j:Nat) (A:Nat),T[j]?=some A→M.testBit j=true→∀ k,A.testBit k=true→M.testBit k=true
theorem CV {kJ:List Nat}:∀ {ts:List Nat} {cs:List Nat} {i:Nat},Et kJ ts cs i=true→∀ (j:Nat) (A:Nat),ts[j]?=some A→pR cs j=upto A kJ (i+j)∧∀ k,A.testBit k=true→k<i+j
 | [],[],_,_,j,t,h=>by simp at h
 | [],_::_,_,h,_,_,_=>by cases h
 | _::_,[],_,h,_,_,_=>by cases h
 | t0::ts,c::cs,i,h,j,t,hj=>by
  unfold Et at h
  rw [Bool.and_eq_true,Bool.and_eq_true] at h
  cases j with
  | zero =>
   obtain rfl:t0=t:=by simpa using hj
   refine ⟨Nat.eq_of_beq_eq_true h.1,fun k hk=>?_⟩
   have h0:t0 >>> i=0:=Nat.eq_of_beq_eq_true h.2.1
   rcases Nat.lt_or_ge k i with hl | hl
   · omega
   · exfalso
     have:(t0 >>> i).testBit (k-i)=true:=by rw [Nat.testBit_shiftRight,show i+(k-i)=k by omega];exact hk
     rw [h0,Nat.zero_testBit] at this;cases this
  | succ j =>
   have:=CV h.2.2 j t (by simpa using hj)
   rw [show i+(j+1)=i+1+j by omega]
   exact this
theorem CW {A:Nat} {kJ:List Nat} {k:Nat}:∀ {n:Nat},(upto A kJ n).testBit k=true→A.testBit k=true∨∃ j,j<n∧A.testBit j=true∧(pR kJ j).testBit k=true
 | 0,h=>.inl h
 | n + 1,h=>by
  unfold upto at h
  cases hb:tb A n with
  | true =>
   rw [hb] at h
   have h2:(Nat.lor (upto A kJ n) (pR kJ n)).testBit k=((upto A kJ n).testBit k||(pR kJ n).testBit k):=Nat.testBit_or _ _ _
   rw [h2,Bool.or_eq_true] at h
   rcases h with h | h
   · rcases CW h with h | ⟨j,h1,h2⟩
     · exact .inl h
     · exact .inr ⟨j,by omega,h2⟩
   · exact .inr ⟨n,by omega,by rw [← iZ];exact hb,h⟩
  | false =>
   rw [hb] at h
   rcases CW h with h | ⟨j,h1,h2⟩
   · exact .inl h
   · exact .inr ⟨j,by omega,h2⟩
theorem MP {T:List Nat} {kJ:List Nat} (hc:Et kJ T kJ 0=true) {M:Nat} (hM:Dwn T M):∀ (j:Nat) (A:Nat),T[j]?=some A→(∀ k,A.testBit k=true→M.testBit k=true)→∀ k,(pR kJ j).testBit k=true→M.testBit k=true:=by
 intro j
 induction j using Nat.strongRecOn with
 | _ j ih =>
  intro t ht hA k hk
  have h1:=(CV hc j t ht)
  rw [Nat.zero_add] at h1
  rw [h1.1] at hk
  rcases CW hk with h | ⟨q,hq,h2,h3⟩
  · exact hA k h
  · have hqM:=hA q h2
    have hlt:q<T.length:=by
     have:=(List.getElem?_eq_some_iff.1 ht).1;omega
    obtain ⟨u,hu⟩:∃ u,T[q]?=some u:=⟨_,List.getElem?_eq_getElem hlt⟩
    exact ih q hq u hu (fun x hx=>hM q u hu hqM x hx) k h3
def oi (ord:Option (List Nat)) (i:Nat):Nat:=match ord with
 | none=>i
 | some l=>pR l i
def xL (kJ:List Nat) (i j:Nat):Bool:=match Nat.blt j i with
 | true=>tb (pR kJ i) j
 | false=>tb (pR kJ j) i
def mem (x:Nat):List Nat→Bool
 | []=>false
 | y::l=>Nat.beq y x||mem x l
theorem mem_iff {x:Nat}:∀ {l:List Nat},x∈l→mem x l=true
 | y::l,h=>by
  unfold mem
  rcases List.mem_cons.1 h with rfl | h
  · rw [Nat.beq_refl];rfl
  · rw [mem_iff h,Bool.or_true]
def RX (k:Nat) (it:It):Bool:=VV k it.out&&(match it.bx with
 | some (b,_,cs)=>!(Nat.beq b k)&&qp k cs
 | none=>true)
def IX (g:Nat) (it:It):Bool:=VW g it.out&&(match it.bx with
 | some (_,_,cs)=>vU g cs
 | none=>true)
def pair (kJ:List Nat) (i:Nat) (it:It) (j:Nat) (jt:It):Bool :=
 (match jt.d with
  | some d=>!(mem d it.rd)||xL kJ i j
  | none=>true) &&
 ((match jt.d,it.d with
  | some d,some e=>!(Nat.beq d e)||xL kJ i j
  | _,_=>true) &&
 ((match jt.bx with
  | some (b,_)=>!(mem b it.acc)||xL kJ i j
  | none=>true) &&
 ((match jt.bx,it.bx with
  | some (b,_),some (c,_)=>!(Nat.beq b c)||xL kJ i j
  | _,_=>true) &&
 ((match it.nw with
  | some k=>RX k jt||(Nat.blt i j&&tb (pR kJ j) i)
  | none=>true) &&
 ((match it.gh with
  | some (g,_)=>IX g jt||(Nat.blt i j&&tb (pR kJ j) i)
  | none=>true) &&
 ((match it.gh,jt.gh with
  | some (g,_),some (h,_)=>!(Nat.beq h g)
  | _,_=>true) &&
 (match jt.gh with
  | some (g,_)=>!(mem g it.gs)||xL kJ i j
  | none=>true)))))))
def RY (kJ:List Nat) (i:Nat) (it:It):Tr→Bool
 | []=>true
 | jt::tr=>(Nat.beq tr.length i||pair kJ i it tr.length jt)&&RY kJ i it tr
def MQ (l0:Fr) (B0:Bx) (Γ0:Gm) (it:It):Bool :=
 (match it.nw with
  | some k=>CK k l0&&zP k B0
  | none=>true) &&
 (match it.gh with
  | some (g,_)=>fresh g l0 B0 Γ0
  | none=>true)
def RZ (kJ:List Nat) (l0:Fr) (B0:Bx) (Γ0:Gm) (full:Tr):Tr→Bool
 | []=>true
 | it::tr=>RY kJ tr.length it full&&(MQ l0 B0 Γ0 it&&RZ kJ l0 B0 Γ0 full tr)
theorem FY {kJ:List Nat} {i:Nat} {it:It}:∀ {tr:Tr},RY kJ i it tr=true→∀ j jt,At tr j jt→j≠i→pair kJ i it j jt=true
 | x::tr,h,j,jt,hj,hne=>by
  unfold RY at h
  rw [Bool.and_eq_true,Bool.or_eq_true] at h
  rcases hj with ⟨rfl,rfl⟩ | hj
  · rcases h.1 with h1 | h1
    · exact absurd (Nat.eq_of_beq_eq_true h1) hne
    · exact h1
  · exact FY h.2 j jt hj hne
theorem Au {kJ:List Nat} {l0:Fr} {B0:Bx} {Γ0:Gm} {full:Tr}:∀ {tr:Tr},RZ kJ l0 B0 Γ0 full tr=true→∀ i it,At tr i it→RY kJ i it full=true∧MQ l0 B0 Γ0 it=true
 | x::tr,h,i,it,hi=>by
  unfold RZ at h
  rw [Bool.and_eq_true,Bool.and_eq_true] at h
  rcases hi with ⟨rfl,rfl⟩ | hi
  · exact ⟨h.1,h.2.1⟩
  · exact Au h.2.2 i it hi
section
variable (P:Program) (L:List Oper) (w0:World) (l0:Fr) (B0:Bx) (Γ0:Gm)
inductive FZ (i:Nat) (tr:Tr):It→Prop
 | skip (o:Oper) (d:Nat) (rd:List Nat) (ho:nth L i=some o) (hd:o.dst=some d) (hg:mW L (kr (wh l0 tr) rd) o.guard=some false):FZ i tr ⟨some d,.v undef,rd,[],[],none,none,none⟩
 | pure (o:Oper) (d:Nat) (s:SV) (rd acc gs:List Nat) (ho:nth L i=some o) (hd:o.dst=some d) (hg:mW L (kr (wh l0 tr) rd) o.guard=some true)
  (hr:∀ α γ w,Holds w0 (zQ (RU B0 tr) acc) (qK (Gq Γ0 tr) gs) α γ w→∀ ρ,Cons ρ (eG α γ (kr (wh l0 tr) rd))→(execOp ρ o).run P w = .ok (.value (den α γ s)) w):FZ i tr ⟨some d,s,rd,acc,gs,none,none,none⟩
 | new (o:Oper) (d k:Nat) (t:TypeId) (cs:List SV) (rd acc gs:List Nat) (ho:nth L i=some o) (hd:o.dst=some d) (hg:mW L (kr (wh l0 tr) rd) o.guard=some true) (hk:qp k cs=true)
  (hr:∀ α γ w,Holds w0 (zQ (RU B0 tr) acc) (qK (Gq Γ0 tr) gs) α γ w→Vd P (kr (wh l0 tr) rd) (zQ (RU B0 tr) acc) α γ w o (.new t cs)):FZ i tr ⟨some d,.p k 0,rd,acc,gs,some (k,t,cs),some k,none⟩
 | put (o:Oper) (b:Nat) (t:TypeId) (cs:List SV) (rd acc gs:List Nat) (s:SV) (ho:nth L i=some o) (hd:o.dst=none) (hg:mW L (kr (wh l0 tr) rd) o.guard=some true)
  (hr:∀ α γ w,Holds w0 (zQ (RU B0 tr) acc) (qK (Gq Γ0 tr) gs) α γ w→Vd P (kr (wh l0 tr) rd) (zQ (RU B0 tr) acc) α γ w o (.put b t cs)):FZ i tr ⟨none,.v undef,rd,acc,gs,some (b,t,cs),none,none⟩
 | call (o:Oper) (d g:Nat) (S:RS) (res:SV) (rd gs:List Nat) (f:FuncId) (xs:List Operand) (ats:Array TypeId) (ss:List SV) (ho:nth L i=some o) (hop:o.op = .call { callee:=.value (.func f),args:=xs.toArray,argTypes:=ats }) (hd:o.dst=some d) (hg:mW L (kr (wh l0 tr) rd) o.guard=some true)
  (hx:evs (kr (wh l0 tr) rd) xs=some ss) (hf:∀ (u:Array Value) X,(callFunc f u).run P X = .ok (.enter f u) X)
  (Bl:∀ α γ w,Holds w0 [] (qK (Gq Γ0 tr) gs) α γ w→Calls P f (bU α γ ss).toArray w (fun e w'=>∃ F,(∀ k,bE (F k)=true)∧e = .returned (den α (upd γ g F) res)∧S.R w' F∧Ex w w')):FZ i tr ⟨some d,res,rd,[],gs,none,none,some (g,S.S)⟩
 | eff (o:Oper) (d g:Nat) (S:RS) (res:SV) (rd gs:List Nat) (ho:nth L i=some o) (hd:o.dst=some d) (hg:mW L (kr (wh l0 tr) rd) o.guard=some true)
  (Bl:∀ α γ w,Holds w0 [] (qK (Gq Γ0 tr) gs) α γ w→∃ F w',(∀ k,bE (F k)=true)∧(∀ ρ,Cons ρ (eG α γ (kr (wh l0 tr) rd))→(execOp ρ o).run P w = .ok (.value (den α (upd γ g F) res)) w')∧S.R w' F∧Ex w w'):FZ i tr ⟨some d,res,rd,[],gs,none,none,some (g,S.S)⟩
def Eu (ord:Option (List Nat)):Tr→Prop
 | []=>True
 | it::tr=>FZ P L w0 l0 B0 Γ0 (oi ord tr.length) tr it∧Eu ord tr
end
theorem IY {P:Program} {L:List Oper} {w0:World} {l0:Fr} {B0:Bx} {Γ0:Gm}:∀ {ord:Option (List Nat)} {full:Tr},Eu P L w0 l0 B0 Γ0 ord full→∀ i it,At full i it→∃ post tr,full=post++it::tr∧tr.length=i∧FZ P L w0 l0 B0 Γ0 (oi ord i) tr it
 | ord,x::tr,h,i,it,hi=>by
  rcases hi with ⟨rfl,rfl⟩ | hi
  · exact ⟨[],tr,rfl,rfl,h.1⟩
  · obtain ⟨post,tr',e,h1,h2⟩:=IY h.2 i it hi
    exact ⟨x::post,tr',by rw [e];rfl,h1,h2⟩
end Go.Proofs.YtdpmbgomcjnohaaGreatDoor.Rf
/- Regions that draw their order: whichever order comes up, the same is known at the end. -/
namespace Go.Proofs.YtdpmbgomcjnohaaGreatDoor.Rf
open Go Go.RowKit Go.Proofs.YtdpmbgomcjnohaaGreatDoor.Pl
set_option linter.all false
set_option maxRecDepth 100000
set_option maxHeartbeats 8000000
def rem (M:Nat):Nat→Nat
 | 0=>0
 | n+1=>rem M n+(if M.testBit n=true then 0 else 1)
theorem IZ {M:Nat}:∀ {N:Nat},rem M N=0→∀ j,j<N→M.testBit j=true
 | 0,_,j,h=>by omega
 | N+1,h,j,hj=>by
  unfold rem at h
  by_cases hb:M.testBit N=true
  · rcases Nat.lt_or_ge j N with hl | hl
    · exact IZ (N:=N) (by omega) j hl
    · rw [show j=N by omega];exact hb
  · rw [if_neg hb] at h;omega
theorem MR {M:Nat}:∀ {N:Nat},(∀ j,j<N→M.testBit j=true)→rem M N=0
 | 0,_=>rfl
 | N+1,h=>by unfold rem;rw [MR (N:=N) fun j hj=>h j (by omega),if_pos (h N (by omega))]
theorem uC (M i j:Nat):(Nat.lor M (Nat.shiftLeft 1 i)).testBit j=(M.testBit j||decide (j=i)):=by
 have h2:(Nat.lor M (Nat.shiftLeft 1 i)).testBit j=(M.testBit j||(Nat.shiftLeft 1 i).testBit j):=Nat.testBit_or _ _ _
 rw [h2,oQ]
theorem MS {M i:Nat} (hi:M.testBit i=false):∀ {N:Nat},(N≤i→rem (Nat.lor M (Nat.shiftLeft 1 i)) N=rem M N)∧(i<N→rem (Nat.lor M (Nat.shiftLeft 1 i)) N+1=rem M N)
 | 0=>⟨fun _=>rfl,fun h=>by omega⟩
 | N+1=>by
  obtain ⟨h1,h2⟩:=MS hi (N:=N)
  unfold rem
  rw [uC]
  refine ⟨fun h=>?_,fun h=>?_⟩
  · rw [h1 (by omega),decide_eq_false (show ¬ N=i by omega),Bool.or_false]
  · rcases Nat.lt_or_ge i N with hl | hl
    · have:=h2 hl
      rw [decide_eq_false (show ¬ N=i by omega),Bool.or_false];omega
    · obtain rfl:N=i:=by omega
      rw [h1 (Nat.le_refl _),decide_eq_true rfl,Bool.or_true,if_pos rfl,hi,if_neg (by simp)]
theorem Holds.yT {w0:World} {B:Bx} {Γ Γ':Gm} {α:Env} {γ:j6} {w:World} (h:Holds w0 B Γ α γ w) (e:∀ g,mH Γ' g=mH Γ g):Holds w0 B Γ' α γ w:=⟨h.ex,h.box,h.inj,h.sc,fun g S hg=>h.fact g S (by rw [← e];exact hg)⟩
section
variable {A:Type}
theorem F3 {M g:Nat} {s:A} {base:List (Nat × A)}:∀ {xs:List (Option (Nat × A))},vV (sel M base xs) g=some s→(∃ j,At xs j (some (g,s))∧tb M j=true)∨vV base g=some s
 | [],h=>.inr h
 | none::xs,h=>by
  rcases F3 (xs:=xs) h with ⟨j,h1,h2⟩ | h
  · exact .inl ⟨j,.inr h1,h2⟩
  · exact .inr h
 | some (d,u)::xs,h=>by
  have key:vV (sel M base xs) g=some s→(∃ j,At (some (d,u)::xs) j (some (g,s))∧tb M j=true)∨vV base g=some s:=fun h=>by
   rcases F3 (xs:=xs) h with ⟨j,h1,h2⟩ | h
   · exact .inl ⟨j,.inr h1,h2⟩
   · exact .inr h
  simp only [sel] at h
  cases hb:tb M xs.length with
  | false=>rw [hb] at h;exact key h
  | true =>
   rw [hb] at h
   simp only [vV] at h
   cases hd:Nat.beq d g with
   | true =>
    rw [hd] at h
    obtain rfl:=Nat.eq_of_beq_eq_true hd
    obtain rfl:=Option.some.inj h
    exact .inl ⟨xs.length,.inl ⟨rfl,rfl⟩,hb⟩
   | false=>rw [hd] at h;exact key h
end
theorem CX {M k:Nat} {l0:Fr} (h0:CK k l0=true):∀ {xs:List (Option (Nat × SV))},(∀ j e,At xs j (some e)→tb M j=true→VV k e.2=true)→CK k (sel M l0 xs)=true
 | [],_=>h0
 | none::xs,h=>CX h0 (xs:=xs) fun j e hj=>h j e (.inr hj)
 | some (d,s)::xs,h=>by
  have ih:=CX h0 (xs:=xs) fun j e hj=>h j e (.inr hj)
  simp only [sel]
  cases hb:tb M xs.length with
  | false=>exact ih
  | true =>
   show (VV k s&&CK k _)=true
   rw [ih,h xs.length (d,s) (.inl ⟨rfl,rfl⟩) hb];rfl
theorem xM {M k:Nat} {l0:Fr} (h0:DL k l0=true):∀ {xs:List (Option (Nat × SV))},(∀ j e,At xs j (some e)→tb M j=true→VW k e.2=true)→DL k (sel M l0 xs)=true
 | [],_=>h0
 | none::xs,h=>xM h0 (xs:=xs) fun j e hj=>h j e (.inr hj)
 | some (d,s)::xs,h=>by
  have ih:=xM h0 (xs:=xs) fun j e hj=>h j e (.inr hj)
  simp only [sel]
  cases hb:tb M xs.length with
  | false=>exact ih
  | true =>
   show (VW k s&&DL k _)=true
   rw [ih,h xs.length (d,s) (.inl ⟨rfl,rfl⟩) hb];rfl
theorem CY {M k:Nat} {B0:Bx} (h0:zP k B0=true):∀ {xs:List (Option (Nat × TypeId × List SV))},(∀ j e,At xs j (some e)→tb M j=true→(!(Nat.beq e.1 k))=true∧qp k e.2.2=true)→zP k (sel M B0 xs)=true
 | [],_=>h0
 | none::xs,h=>CY h0 (xs:=xs) fun j e hj=>h j e (.inr hj)
 | some (b,t,cs)::xs,h=>by
  have ih:=CY h0 (xs:=xs) fun j e hj=>h j e (.inr hj)
  simp only [sel]
  cases hb:tb M xs.length with
  | false=>exact ih
  | true =>
   obtain ⟨h1,h2⟩:=h xs.length (b,t,cs) (.inl ⟨rfl,rfl⟩) hb
   show (!(Nat.beq b k)&&qp k cs&&zP k _)=true
   rw [ih];dsimp only at h1 h2;rw [h1,h2];rfl
theorem xN {M k:Nat} {B0:Bx} (h0:CL k B0=true):∀ {xs:List (Option (Nat × TypeId × List SV))},(∀ j e,At xs j (some e)→tb M j=true→vU k e.2.2=true)→CL k (sel M B0 xs)=true
 | [],_=>h0
 | none::xs,h=>xN h0 (xs:=xs) fun j e hj=>h j e (.inr hj)
 | some (b,t,cs)::xs,h=>by
  have ih:=xN h0 (xs:=xs) fun j e hj=>h j e (.inr hj)
  simp only [sel]
  cases hb:tb M xs.length with
  | false=>exact ih
  | true =>
   show (vU k cs&&CL k _)=true
   rw [ih,h xs.length (b,t,cs) (.inl ⟨rfl,rfl⟩) hb];rfl
theorem oF {X:Type} {f:It→Option X} {full:Tr} {j:Nat} {e:X} (h:At (full.map f) j (some e)):∃ jt,At full j jt∧f jt=some e:=by
 obtain ⟨jt,h1,h2⟩:=(FT f).1 h
 exact ⟨jt,h1,h2.symm⟩
theorem KZ {it:It} {e:Nat × SV} (h:it.kF=some e):it.d=some e.1∧it.out=e.2:=by
 obtain ⟨d,s,rd,acc,gs,bx,nw,gh⟩:=it
 cases d with
 | none=>cases h
 | some d=>obtain rfl:=Option.some.inj h;exact ⟨rfl,rfl⟩
theorem aar {it:It} {d:Nat} (h:it.d=some d):it.kF=some (d,it.out):=by
 obtain ⟨d',s,rd,acc,gs,bx,nw,gh⟩:=it
 dsimp only at h
 subst h;rfl
theorem Ev {kJ:List Nat} {i j:Nat} {it jt:It} (h:pair kJ i it j jt=true) :
  (∀ d,jt.d=some d→d∈it.rd→xL kJ i j=true)∧(∀ d,jt.d=some d→it.d=some d→xL kJ i j=true)∧(∀ b x,jt.bx=some (b,x)→b∈it.acc→xL kJ i j=true) ∧
  (∀ b x y,jt.bx=some (b,x)→it.bx=some (b,y)→xL kJ i j=true)∧(∀ k,it.nw=some k→RX k jt=true∨(i<j∧tb (pR kJ j) i=true)) ∧
  (∀ g S,it.gh=some (g,S)→IX g jt=true∨(i<j∧tb (pR kJ j) i=true))∧(∀ g S S',it.gh=some (g,S)→jt.gh=some (g,S')→False)∧(∀ g S,jt.gh=some (g,S)→g∈it.gs→xL kJ i j=true):=by
 unfold pair at h
 simp only [Bool.and_eq_true] at h
 obtain ⟨h1,h2,h3,h4,h5,h6,h7,h8⟩:=h
 refine ⟨fun d hd hm=>?_,fun d hd he=>?_,fun b x hb hm=>?_,fun b x y hb hi=>?_,fun k hk=>?_,fun g S hg=>?_,fun g S S' hg hj=>?_,fun g S hg hm=>?_⟩
 · rw [hd] at h1;simpa [mem_iff hm] using h1
 · rw [hd,he] at h2;simpa [Nat.beq_refl] using h2
 · rw [hb] at h3;simpa [mem_iff hm] using h3
 · rw [hb,hi] at h4;simpa [Nat.beq_refl] using h4
 · rw [hk] at h5
   rw [Bool.or_eq_true,Bool.and_eq_true] at h5
   rcases h5 with h5 | ⟨h5,h6⟩
   · exact .inl h5
   · exact .inr ⟨Nat.lt_of_lt_of_le (Nat.lt_succ_self i) (Nat.le_of_ble_eq_true h5),h6⟩
 · rw [hg] at h6
   rw [Bool.or_eq_true,Bool.and_eq_true] at h6
   rcases h6 with h5 | ⟨h5,h6⟩
   · exact .inl h5
   · exact .inr ⟨Nat.lt_of_lt_of_le (Nat.lt_succ_self i) (Nat.le_of_ble_eq_true h5),h6⟩
 · rw [hg,hj] at h7
   dsimp only at h7
   rw [Nat.beq_refl] at h7;cases h7
 · rw [hg] at h8;simpa [mem_iff hm] using h8
def zz (ord:Option (List Nat)) (A:Nat):Nat→Nat
 | 0=>0
 | j+1=>match tb A (oi ord j) with
  | true=>Nat.lor (zz ord A j) (Nat.shiftLeft 1 j)
  | false=>zz ord A j
theorem yU {ord:Option (List Nat)} {A k:Nat}:∀ {n:Nat},(zz ord A n).testBit k=true↔k<n∧A.testBit (oi ord k)=true
 | 0=>by simp [zz]
 | n + 1=>by
  have ih:=yU (ord:=ord) (A:=A) (k:=k) (n:=n)
  unfold zz
  cases hb:tb A (oi ord n) with
  | true =>
   dsimp only
   rw [uC,Bool.or_eq_true,ih,decide_eq_true_eq]
   rw [iZ] at hb
   constructor
   · rintro (⟨h1,h2⟩ | rfl)
     · exact ⟨by omega,h2⟩
     · exact ⟨by omega,hb⟩
   · rintro ⟨h1,h2⟩
     rcases Nat.lt_or_ge k n with h | h
     · exact .inl ⟨h,h2⟩
     · exact .inr (by omega)
  | false =>
   dsimp only
   rw [ih]
   rw [iZ] at hb
   constructor
   · rintro ⟨h1,h2⟩;exact ⟨by omega,h2⟩
   · rintro ⟨h1,h2⟩
     refine ⟨?_,h2⟩
     rcases Nat.lt_or_ge k n with h | h
     · exact h
     · exfalso;rw [show k=n by omega,hb] at h2;cases h2
def I1 (T:List Tb) (i:Nat):Nat:=match T[i]? with
 | some t=>t.A
 | none=>0
def uQ (T:List Tb) (ord:Option (List Nat)) (n:Nat):Nat→List Nat
 | 0=>[]
 | j+1=>uQ T ord n j++[zz ord (I1 T (oi ord j)) n]
theorem uD {T:List Tb} {ord:Option (List Nat)} {n:Nat}:∀ j,(uQ T ord n j).length=j
 | 0=>rfl
 | j+1=>by unfold uQ;rw [List.length_append,uD j];rfl
theorem tJ {T:List Tb} {ord:Option (List Nat)} {n i:Nat}:∀ {j:Nat},i<j→(uQ T ord n j)[i]?=some (zz ord (I1 T (oi ord i)) n)
 | 0,h=>by omega
 | j+1,h=>by
  unfold uQ
  rcases Nat.lt_or_ge i j with hl | hl
  · rw [List.getElem?_append_left (by rw [uD];exact hl)];exact tJ hl
  · obtain rfl:i=j:=by omega
    rw [List.getElem?_append_right (by rw [uD];exact Nat.le_refl _),uD,Nat.sub_self];rfl
def allIn (l:List Nat):Nat→Bool
 | 0=>true
 | n+1=>mem n l&&allIn l n
def nodup:List Nat→Bool
 | []=>true
 | x::l=>!(mem x l)&&nodup l
def MU:List Nat→Nat→Bool
 | [],_=>true
 | x::l,n=>Nat.blt x n&&MU l n
theorem I4 {n:Nat}:∀ {l:List Nat},MU l n=true→∀ j,j<l.length→pR l j<n
 | x::l,h,j,hj=>by
  unfold MU at h
  rw [Bool.and_eq_true] at h
  cases j with
  | zero=>exact Nat.lt_of_lt_of_le (Nat.lt_succ_self x) (Nat.le_of_ble_eq_true h.1)
  | succ j=>exact I4 h.2 j (by simp at hj;omega)
def CZ (ord:Option (List Nat)) (n:Nat):Bool:=match ord with
 | none=>true
 | some l=>Nat.beq l.length n&&(allIn l n&&(nodup l&&MU l n))
def R3 (n:Nat):List Tb→Bool
 | []=>true
 | t::ts=>Nat.beq (Nat.shiftRight t.A n) 0&&R3 n ts
theorem MV {n:Nat}:∀ {ts:List Tb},R3 n ts=true→∀ (j:Nat) (t:Tb),ts[j]?=some t→∀ k,t.A.testBit k=true→k<n
 | [],_,j,t,h,_,_=>by simp at h
 | x :: ts,h,j,t,hj,k,hk=>by
  unfold R3 at h
  rw [Bool.and_eq_true] at h
  cases j with
  | zero =>
   obtain rfl:x=t:=by simpa using hj
   have h0:x.A >>> n=0:=Nat.eq_of_beq_eq_true h.1
   rcases Nat.lt_or_ge k n with hl | hl
   · exact hl
   · exfalso
     have:(x.A >>> n).testBit (k-n)=true:=by rw [Nat.testBit_shiftRight,show n+(k-n)=k by omega];exact hk
     rw [h0,Nat.zero_testBit] at this;cases this
  | succ j=>exact MV h.2 j t (by simpa using hj) k hk
theorem MW {x:Nat}:∀ {l:List Nat},mem x l=true→∃ j,j<l.length∧pR l j=x
 | [],h=>by cases h
 | y::l,h=>by
  unfold mem at h
  rw [Bool.or_eq_true] at h
  rcases h with h | h
  · exact ⟨0,by simp,Nat.eq_of_beq_eq_true h⟩
  · obtain ⟨j,h1,h2⟩:=MW h
    exact ⟨j+1,by simp;omega,h2⟩
theorem MX:∀ {l:List Nat} {j:Nat},j<l.length→pR l j∈l
 | y::l,0,_=>List.mem_cons_self
 | y::l,j+1,h=>List.mem_cons_of_mem _ (MX (by simp at h;omega))
theorem Ew:∀ {l:List Nat},nodup l=true→∀ i j,i<l.length→j<l.length→pR l i=pR l j→i=j
 | [],_,i,_,h,_,_=>by simp at h
 | x::l,h,i,j,hi,hj,e=>by
  unfold nodup at h
  rw [Bool.and_eq_true] at h
  have hx:∀ q,q<l.length→pR l q≠x:=fun q hq e=>by
   have:=mem_iff (MX hq)
   rw [e] at this
   rw [this] at h;exact absurd h.1 (by simp)
  cases i with
  | zero=>cases j with
   | zero=>rfl
   | succ j=>exact absurd e.symm (hx j (by simp at hj;omega))
  | succ i=>cases j with
   | zero=>exact absurd e (hx i (by simp at hi;omega))
   | succ j=>rw [Ew h.2 i j (by simp at hi;omega) (by simp at hj;omega) e]
theorem I5 {l:List Nat}:∀ {n:Nat},allIn l n=true→∀ i,i<n→mem i l=true
 | n+1,h,i,hi=>by
  unfold allIn at h
  rw [Bool.and_eq_true] at h
  rcases Nat.lt_or_ge i n with hl | hl
  · exact I5 h.2 i hl
  · rw [show i=n by omega];exact h.1
theorem Oa {ord:Option (List Nat)} {n:Nat} (h:CZ ord n=true):(∀ i,i<n→∃ t,t<n∧oi ord t=i)∧∀ s t,s<n→t<n→oi ord s=oi ord t→s=t:=by
 cases ord with
 | none=>exact ⟨fun i hi=>⟨i,hi,rfl⟩,fun s t _ _ e=>e⟩
 | some l =>
  unfold CZ at h
  dsimp only at h
  rw [Bool.and_eq_true,Bool.and_eq_true,Bool.and_eq_true] at h
  have hl:=Nat.eq_of_beq_eq_true h.1
  refine ⟨fun i hi=>?_,fun s t hs ht e=>Ew h.2.2.1 s t (by omega) (by omega) e⟩
  obtain ⟨j,h1,h2⟩:=MW (I5 h.2.1 i hi)
  exact ⟨j,by omega,h2⟩
theorem Ob {P:Program} {L:List Oper} {w0:World} {kJ:List Nat} {l0:Fr} {B0:Bx} {Γ0:Gm} {n:Nat} {Q:Exit→Act→World→Prop} {cs:List Code} {ds:List Deferred} {full:Tr} {ord:Option (List Nat)}
  (hlen:full.length=L.length) (X7:CB n L=true) (hperm:CZ ord L.length=true) (hlow:R3 L.length (tabs L.toArray)=true) (X8:Et kJ (uQ (tabs L.toArray) ord L.length L.length) kJ 0=true) (X9:RZ kJ l0 B0 Γ0 full full=true) (hok:Eu P L w0 l0 B0 Γ0 ord full)
  (hV:HV P Q n ds w0 cs (wh l0 full) (RU B0 full) (Gq Γ0 full)) :
  ∀ (f M Mo:Nat),rem M L.length=f→(∀ t,t<L.length→M.testBit t=Mo.testBit (oi ord t))→Dwn (uQ (tabs L.toArray) ord L.length L.length) M→∀ α γ w,Holds w0 (NZ M B0 full) (MO M Γ0 full) α γ w→G P L (fun _=>True) (Ks P Q cs) n ds f Mo (eG α γ (RV M l0 full)) w:=by
 obtain ⟨Ya,hinj⟩:=Oa hperm
 have hd:=lT (n:=n) (L:=L) (by unfold CB at X7;rw [Bool.and_eq_true] at X7;exact X7.2)
 intro f
 induction f with
 | zero =>
  intro M Mo Ve hR hDn α γ w hH a listed ha hL _
  have hall:=IZ Ve
  have hb:∀ {X:Type} (f:It→X) j,j<(full.map f).length→tb M j=true:=fun f j hj=>by rw [iZ];exact hall j (by rw [List.length_map,hlen] at hj;exact hj)
  refine ⟨?_,?_⟩
  · cases hr:Region.ready .any L.toArray listed with
    | nil=>rfl
    | cons j l =>
     obtain ⟨o,ho,h1,_⟩:=(kS (n:=0) hL).1 (show j∈Region.ready .any L.toArray listed by rw [hr];exact List.mem_cons_self)
     have hlt:j<L.length:=by have:=(Array.getElem?_eq_some_iff.1 ho).1;simpa using this
     obtain ⟨t,ht1,ht2⟩:=Ya j hlt
     have h2:=hR t ht1
     rw [ht2,h1,hall t ht1] at h2;cases h2
  · have e1:RV M l0 full=wh l0 full:=xK (hb _)
    have e2:NZ M B0 full=RU B0 full:=xK (hb _)
    have e3:MO M Γ0 full=Gq Γ0 full:=xK (hb _)
    rw [e1] at ha;rw [e2,e3] at hH
    exact hV α γ w hH a ha
 | succ f ih =>
  intro M Mo Ve hR hDn α γ w hH a listed ha hL _
  refine ⟨fun h0=>?_,fun i0 hi=>?_⟩
  · -- something is ready
    exfalso
    have hex:∃ j,j<L.length∧M.testBit j=false:=by
     refine Classical.byContradiction fun hn=>?_
     have:=MR (M:=M) (N:=L.length) fun j hj=>by
      cases hb:M.testBit j with
      | true=>rfl
      | false=>exact absurd ⟨j,hj,hb⟩ hn
     omega
    obtain ⟨j,⟨hj,hb⟩,hmin⟩:=least hex
    have hoj:oi ord j<L.length:=by
     refine Classical.byContradiction fun hn=>?_
     cases ord with
     | none=>exact hn hj
     | some l =>
      have h9:=hperm
      unfold CZ at h9
      dsimp only at h9
      rw [Bool.and_eq_true,Bool.and_eq_true,Bool.and_eq_true] at h9
      exact hn (I4 h9.2.2.2 j (by rw [Nat.eq_of_beq_eq_true h9.1];exact hj))
    have hjo:L.toArray[oi ord j]?=some L[oi ord j]:=by simp [hoj]
    have ht:=xC hjo
    have hA:=(CV X8 j _ (tJ hj)).2
    have hin:oi ord j∈Region.ready .any L.toArray listed:=(kS (n:=0) hL).2 ⟨_,hjo,by rw [← hR j hj];exact hb,Iy fun k hk=>by
     have hk1:=MV hlow _ _ ht k hk
     obtain ⟨s,hs1,hs2⟩:=Ya k hk1
     have hk':=hA s (yU.2 ⟨hs1,by unfold I1;rw [ht,hs2];exact hk⟩)
     rw [Nat.zero_add] at hk'
     rw [← hs2,← hR s hs1]
     cases hkb:M.testBit s with
     | true=>rfl
     | false=>have:=hmin s ⟨hs1,hkb⟩;omega⟩
    rw [h0] at hin;cases hin
  · obtain ⟨o,ho,hbo,hAM⟩:=(kS (n:=0) hL).1 hi
    have hoi:nth L i0=some o:=by rw [sV,← List.getElem?_toArray];exact ho
    have hlt:i0<L.toArray.size:=(Array.getElem?_eq_some_iff.1 ho).1
    have hi0:i0<L.length:=by simpa using hlt
    obtain ⟨i,hiL,uR⟩:=Ya i0 hi0
    have hbi:M.testBit i=false:=by rw [hR i hiL,uR];exact hbo
    have hiT:=tJ (T:=tabs L.toArray) (ord:=ord) (n:=L.length) hiL
    have hAi:∀ k,(zz ord (I1 (tabs L.toArray) (oi ord i)) L.length).testBit k=true→M.testBit k=true:=fun k hk=>by
     obtain ⟨h1,h2⟩:=yU.1 hk
     rw [hR k h1]
     refine Iw hAM _ ?_
     unfold I1 at h2
     rw [uR,xC ho] at h2
     exact h2
    have aas:=MP X8 hDn i _ hiT hAi
    obtain ⟨it,hit⟩:=VY (xs:=full) (j:=i) (by omega)
    obtain ⟨post,tr,VZ,htr,hIt⟩:=IY hok i it hit
    obtain ⟨hc1,hc2⟩:=Au X9 i it hit
    -- another operation that is ordered with i: before it it has come up, behind it it has not
    have R4:∀ j jt,At full j jt→j≠i→xL kJ i j=true→(j<i→M.testBit j=true)∧(i<j→M.testBit j=false):=by
     intro j jt hj hne ho
     unfold xL at ho
     refine ⟨fun hl=>?_,fun hl=>?_⟩
     · have e:Nat.blt j i=true:=by unfold Nat.blt;exact Nat.ble_eq_true_of_le hl
       rw [e] at ho
       exact aas j (by rw [← iZ];exact ho)
     · have e:Nat.blt j i=false:=by
        cases hb:Nat.blt j i with
        | false=>rfl
        | true=>have:=Nat.le_of_ble_eq_true hb;omega
       rw [e] at ho
       cases hb:M.testBit j with
       | false=>rfl
       | true =>
        have hjL:j<L.length:=by have:=ML hj;omega
        have:=MP X8 hDn j _ (tJ hjL) (fun k hk=>hDn j _ (tJ hjL) hb k hk) i (by rw [← iZ];exact ho)
        rw [hbi] at this;cases this
    have R5:∀ j jt,At full j jt→i<j→tb (pR kJ j) i=true→M.testBit j=false:=by
     intro j jt hj hl ho
     refine (R4 j jt hj (by omega) ?_).2 hl
     unfold xL
     have e:Nat.blt j i=false:=by
      cases hb:Nat.blt j i with
      | false=>rfl
      | true=>have:=Nat.le_of_ble_eq_true hb;omega
     rw [e];exact ho
    have zA:∀ j jt,At full j jt→j≠i→_:=fun j jt hj hne=>Ev (FY hc1 j jt hj hne)
    -- slots, boxes and facts that i leans on
    have agree:∀ {A:Type} (base:List (Nat × A)) (kf:It→Option (Nat × A)) (t:Nat),(∀ j jt e,At full j jt→kf jt=some e→e.1=t→j≠i→xL kJ i j=true)→vV (sel M base (full.map kf)) t=vV (CS base (tr.map kf)) t:=by
     intro A base kf t hh
     have e1:full.map kf=(post.map kf++[kf it])++tr.map kf:=by rw [VZ];simp
     rw [e1,CU,vW]
     · intro j e hj he
       obtain ⟨jt,h1,h2⟩:=oF hj
       have hjl:=ML h1
       have h3:At full j jt:=by rw [VZ];exact Es post (.inr h1)
       rw [iZ]
       exact (R4 j jt h3 (by omega) (hh j jt e h3 h2 he (by omega))).1 (by omega)
     · intro j e hj hl he
       rw [← e1] at hj
       obtain ⟨jt,h1,h2⟩:=oF hj
       rw [List.length_map,htr] at hl
       rw [iZ]
       by_cases hji:j=i
       · rw [hji];exact hbi
       · exact (R4 j jt h1 hji (hh j jt e h1 h2 he hji)).2 (by omega)
    have tK:xk (kr (wh l0 tr) it.rd) (RV M l0 full):=by
     intro t s hs
     obtain ⟨h1,h2⟩:=FV hs
     rw [MN] at h2 ⊢
     rw [← h2]
     refine agree l0 It.kF t fun j jt e hj hk he hne=>?_
     exact (zA j jt hj hne).1 t (by rw [← he];exact (KZ hk).1) h1
    have V3:∀ b x,jO (zQ (RU B0 tr) it.acc) b=some x→jO (NZ M B0 full) b=some x:=by
     intro t s hs
     obtain ⟨h1,h2⟩:=FW hs
     rw [FU] at h2 ⊢
     rw [← h2]
     refine agree B0 It.bx t fun j jt e hj hk he hne=>?_
     obtain ⟨b,x⟩:=e
     dsimp only at he
     subst he
     exact (zA j jt hj hne).2.2.1 b x hk h1
    have Yb:∀ j j' jt jt' g S S',At full j jt→At full j' jt'→jt.gh=some (g,S)→jt'.gh=some (g,S')→j=j':=by
     intro j j' jt jt' g S S' h1 h2 e1 e2
     refine Classical.byContradiction fun hne=>?_
     exact (Ev (FY (Au X9 j jt h1).1 j' jt' h2 (fun e=>hne e.symm))).2.2.2.2.2.2.1 g S S' e1 e2
    have hbase:∀ j jt g S,At full j jt→jt.gh=some (g,S)→fresh g l0 B0 Γ0=true:=by
     intro j jt g S h1 e1
     have:=(Au X9 j jt h1).2
     unfold MQ at this
     rw [Bool.and_eq_true,e1] at this
     exact this.2
    have V4:∀ g S,mH (qK (Gq Γ0 tr) it.gs) g=some S→mH (MO M Γ0 full) g=some S:=by
     intro t s hs
     obtain ⟨h1,h2⟩:=FX hs
     rw [tH] at h2 ⊢
     rw [← h2]
     refine agree Γ0 It.gh t fun j jt e hj hk he hne=>?_
     obtain ⟨b,x⟩:=e
     dsimp only at he
     subst he
     exact (zA j jt hj hne).2.2.2.2.2.2.2 b x hk h1
    have hHr:Holds w0 (zQ (RU B0 tr) it.acc) (qK (Gq Γ0 tr) it.gs) α γ w:=hH.sub V3 V4
    have aat:Holds w0 [] (qK (Gq Γ0 tr) it.gs) α γ w:=hH.sub (fun b x h=>by cases h) V4
    -- behind i
    have hbit:∀ j,tb (Nat.lor M (Nat.shiftLeft 1 i)) j=(tb M j||decide (j=i)):=fun j=>by rw [iZ,iZ,uC]
    have Yc:∀ {A:Type} (base:List (Nat × A)) (kf:It→Option (Nat × A)) (t:Nat),
      (∀ s,kf it=some (t,s)→(∀ j jt e,At full j jt→kf jt=some e→e.1=t→i<j→M.testBit j=false)→vV (sel (Nat.lor M (Nat.shiftLeft 1 i)) base (full.map kf)) t=some s) ∧
      ((∀ s,kf it≠some (t,s))→vV (sel (Nat.lor M (Nat.shiftLeft 1 i)) base (full.map kf)) t=vV (sel M base (full.map kf)) t):=by
     intro A base kf t
     obtain ⟨h1,h2⟩:=MM (t:=t) (base:=base) hbit ((FT kf).2 ⟨it,hit,rfl⟩)
     refine ⟨fun s hs hl=>h1 s hs fun j e hj hij he=>?_,h2⟩
     obtain ⟨jt,h3,h4⟩:=oF hj
     rw [iZ];exact hl j jt e h3 h4 he hij
    have Ey:∀ t,lk (RV (Nat.lor M (Nat.shiftLeft 1 i)) l0 full) t=(match it.d with | some d=>(match Nat.beq d t with | true=>some it.out | false=>lk (RV M l0 full) t) | none=>lk (RV M l0 full) t):=by
     intro t
     rw [MN,MN]
     obtain ⟨h1,h2⟩:=Yc l0 It.kF t
     cases hdd:it.d with
     | none=>exact h2 fun s hs=>by have:=(KZ hs).1;rw [hdd] at this;cases this
     | some d =>
      dsimp only
      cases hdt:Nat.beq d t with
      | true =>
       obtain rfl:=Nat.eq_of_beq_eq_true hdt
       refine h1 it.out (aar hdd) fun j jt e hj hk he hl=>?_
       exact (R4 j jt hj (by omega) ((zA j jt hj (by omega)).2.1 d (by rw [← he];exact (KZ hk).1) hdd)).2 hl
      | false =>
       refine h2 fun s hs=>?_
       have:=(KZ hs).1
       rw [hdd] at this
       rw [Option.some.inj this,Nat.beq_refl] at hdt;cases hdt
    have Yd:∀ t,jO (NZ (Nat.lor M (Nat.shiftLeft 1 i)) B0 full) t=(match it.bx with | some (b,x)=>(match Nat.beq b t with | true=>some x | false=>jO (NZ M B0 full) t) | none=>jO (NZ M B0 full) t):=by
     intro t
     rw [FU,FU]
     obtain ⟨h1,h2⟩:=Yc B0 It.bx t
     cases hdd:it.bx with
     | none=>exact h2 fun s hs=>by rw [hdd] at hs;cases hs
     | some bx =>
      obtain ⟨b,x⟩:=bx
      dsimp only
      cases hdt:Nat.beq b t with
      | true =>
       obtain rfl:=Nat.eq_of_beq_eq_true hdt
       refine h1 x hdd fun j jt e hj hk he hl=>?_
       obtain ⟨b',y⟩:=e
       dsimp only at he
       subst he
       exact (R4 j jt hj (by omega) ((zA j jt hj (by omega)).2.2.2.1 b' y x hk hdd)).2 hl
      | false =>
       refine h2 fun s hs=>?_
       rw [hdd] at hs
       cases hs
       rw [Nat.beq_refl] at hdt;cases hdt
    have ghK:∀ t,mH (MO (Nat.lor M (Nat.shiftLeft 1 i)) Γ0 full) t=(match it.gh with | some (b,x)=>(match Nat.beq b t with | true=>some x | false=>mH (MO M Γ0 full) t) | none=>mH (MO M Γ0 full) t):=by
     intro t
     rw [tH,tH]
     obtain ⟨h1,h2⟩:=Yc Γ0 It.gh t
     cases hdd:it.gh with
     | none=>exact h2 fun s hs=>by rw [hdd] at hs;cases hs
     | some bx =>
      obtain ⟨b,x⟩:=bx
      dsimp only
      cases hdt:Nat.beq b t with
      | true =>
       obtain rfl:=Nat.eq_of_beq_eq_true hdt
       refine h1 x hdd fun j jt e hj hk he hl=>?_
       obtain ⟨b',y⟩:=e
       dsimp only at he
       subst he
       have:=Yb j i jt it b' y x hj hit hk hdd
       omega
      | false =>
       refine h2 fun s hs=>?_
       rw [hdd] at hs
       cases hs
       rw [Nat.beq_refl] at hdt;cases hdt
    have Aw:it.bx=none→∀ t,jO (NZ (Nat.lor M (Nat.shiftLeft 1 i)) B0 full) t=jO (NZ M B0 full) t:=fun e t=>by rw [Yd,e]
    have F4:it.gh=none→∀ t,mH (MO (Nat.lor M (Nat.shiftLeft 1 i)) Γ0 full) t=mH (MO M Γ0 full) t:=fun e t=>by rw [ghK,e]
    have aea:Dwn (uQ (tabs L.toArray) ord L.length L.length) (Nat.lor M (Nat.shiftLeft 1 i)):=by
     intro j t hj hb k hk
     rw [uC,Bool.or_eq_true] at hb ⊢
     rcases hb with hb | hb
     · exact .inl (hDn j t hj hb k hk)
     · have e:=of_decide_eq_true hb
       subst e
       rw [hiT] at hj
       obtain rfl:=Option.some.inj hj
       exact .inl (hAi k hk)
    have aau:rem (Nat.lor M (Nat.shiftLeft 1 i)) L.length=f:=by have:=(MS hbi (N:=L.length)).2 hiL;omega
    have hR':∀ t,t<L.length→(Nat.lor M (Nat.shiftLeft 1 i)).testBit t=(Nat.lor Mo (Nat.shiftLeft 1 i0)).testBit (oi ord t):=fun t ht=>by
     rw [uC,uC,hR t ht]
     congr 1
     by_cases e:t=i
     · rw [e,uR,decide_eq_true rfl,decide_eq_true rfl]
     · rw [decide_eq_false e,decide_eq_false (fun e2=>e (hinj t i ht hiL (by rw [e2,uR])))]
    refine Aj (k:=false) (m:=0) (K:=fun l' w'=>∃ α' γ',Holds w0 (NZ (Nat.lor M (Nat.shiftLeft 1 i)) B0 full) (MO (Nat.lor M (Nat.shiftLeft 1 i)) Γ0 full) α' γ' w'∧∀ t v,Go.Proofs.YtdpmbgomcjnohaaGreatDoor.Pl.look (eG α' γ' (RV (Nat.lor M (Nat.shiftLeft 1 i)) l0 full)) t=some v→Go.Proofs.YtdpmbgomcjnohaaGreatDoor.Pl.look l' t=some v)
     (hd i0 o · hoi) hoi ha trivial ?_ (fun a l w ha hS ⟨α',γ',h1,h2⟩=>ih _ _ aau hR' aea α' γ' w h1 a _ (ha.less h2) (hL.put hlt) trivial)
    have I6:∀ (l:List (Nat × Value)) (d:Nat) (v:Value) (t:Nat),Go.Proofs.YtdpmbgomcjnohaaGreatDoor.Pl.look ((d,v)::l) t=(match Nat.beq d t with | true=>some v | false=>Go.Proofs.YtdpmbgomcjnohaaGreatDoor.Pl.look l t):=fun _ _ _ _=>rfl
    cases hIt with
    | skip o' d rd ho' hd' hg =>
     obtain rfl:=Option.some.inj (hoi.symm.trans (by rw [← uR];exact ho'))
     refine Fv hoi hd' (gH (tK.mW hg) α γ) ⟨α,γ,(hH.congr (Aw rfl)).yT (F4 rfl),fun t v hv=>?_⟩
     rw [eT,Ey] at hv
     rw [I6,eT]
     dsimp only at hv
     cases hb:Nat.beq d t with
     | true=>rw [hb] at hv;exact hv
     | false=>rw [hb] at hv;exact hv
    | pure o' d s rd acc gs ho' hd' hg hr =>
     obtain rfl:=Option.some.inj (hoi.symm.trans (by rw [← uR];exact ho'))
     refine lM hoi hd' (gH (tK.mW hg) α γ) (fun ρ hρ=>hr α γ w hHr ρ (tK.cons hρ)) trivial ⟨α,γ,(hH.congr (Aw rfl)).yT (F4 rfl),fun t v hv=>?_⟩
     rw [eT,Ey] at hv
     rw [I6,eT]
     dsimp only at hv
     cases hb:Nat.beq d t with
     | true=>rw [hb] at hv;exact hv
     | false=>rw [hb] at hv;exact hv
    | new o' d k t cs' rd acc gs ho' hd' hg hk hr =>
     obtain rfl:=Option.some.inj (hoi.symm.trans (by rw [← uR];exact ho'))
     obtain ⟨w',hE,hC,hp,hrun⟩:=hr α γ w hHr
     have hb1:CK k l0=true∧zP k B0=true:=by
      unfold MQ at hc2
      rw [Bool.and_eq_true] at hc2
      have:=hc2.1
      dsimp only at this
      rwa [Bool.and_eq_true] at this
     have I7:∀ j jt,At full j jt→tb M j=true→RX k jt=true:=by
      intro j jt hj hb
      have hne:j≠i:=fun e=>by rw [e,iZ,hbi] at hb;cases hb
      rcases (zA j jt hj hne).2.2.2.2.1 k rfl with h | ⟨h1,h2⟩
      · exact h
      · rw [iZ,R5 j jt hj h1 h2] at hb;cases hb
     have hnF:CK k (RV M l0 full)=true:=CX hb1.1 fun j e hj hb=>by
      obtain ⟨jt,h1,h2⟩:=oF hj
      have:=I7 j jt h1 hb
      unfold RX at this
      rw [Bool.and_eq_true,(KZ h2).2] at this
      exact this.1
     have hnB:zP k (NZ M B0 full)=true:=CY hb1.2 fun j e hj hb=>by
      obtain ⟨jt,h1,h2⟩:=oF hj
      have:=I7 j jt h1 hb
      obtain ⟨b,t',c'⟩:=e
      unfold RX at this
      rw [Bool.and_eq_true,h2] at this
      have:=this.2
      dsimp only at this
      rwa [Bool.and_eq_true] at this
     have Jw:=hH.new k w.heap.size t cs' hnB hk hE rfl hC hp
     refine lM hoi hd' (gH (tK.mW hg) α γ) (fun ρ hρ=>hrun ρ (tK.cons hρ)) trivial ⟨upd α k w.heap.size,γ,(Jw.congr fun b=>?_).yT (F4 rfl),fun q v hv=>?_⟩
     · rw [Yd];rfl
     · rw [eT,Ey] at hv
       rw [I6]
       dsimp only at hv
       cases hb:Nat.beq d q with
       | true =>
        rw [hb] at hv
        dsimp only at hv
        rw [← hv]
        show some _=some (Value.pointer (some ⟨upd α k w.heap.size k,0,none⟩))
        rw [upd_same]
       | false =>
        rw [hb] at hv
        dsimp only
        rw [← uA (N:=w.heap.size) _ hnF,eT];exact hv
    | put o' b t cs' rd acc gs s ho' hd' hg hr =>
     obtain rfl:=Option.some.inj (hoi.symm.trans (by rw [← uR];exact ho'))
     obtain ⟨w',old,hold,hX,hC,hp,hrun⟩:=hr α γ w hHr
     have Jw:=hH.put b t old cs' (V3 _ _ hold) hX hC hp
     refine QZ hoi hd' (gH (tK.mW hg) α γ) (fun ρ hρ=>hrun ρ (tK.cons hρ)) trivial ⟨α,γ,(Jw.congr fun q=>?_).yT (F4 rfl),fun q v hv=>?_⟩
     · rw [Yd];rfl
     · rw [eT,Ey] at hv
       rw [eT];exact hv
    | call o' d g S res rd gs f' xs ats ss ho' hop hd' hg hx hf Bl =>
     obtain rfl:=Option.some.inj (hoi.symm.trans (by rw [← uR];exact ho'))
     obtain ⟨hb1,hb2,hb3⟩:=kg (hbase i _ g S.S hit rfl)
     have I7:∀ j jt,At full j jt→tb M j=true→IX g jt=true:=by
      intro j jt hj hb
      have hne:j≠i:=fun e=>by rw [e,iZ,hbi] at hb;cases hb
      rcases (zA j jt hj hne).2.2.2.2.2.1 g S.S rfl with h | ⟨h1,h2⟩
      · exact h
      · rw [iZ,R5 j jt hj h1 h2] at hb;cases hb
     have hnF:DL g (RV M l0 full)=true:=xM hb1 fun j e hj hb=>by
      obtain ⟨jt,h1,h2⟩:=oF hj
      have:=I7 j jt h1 hb
      unfold IX at this
      rw [Bool.and_eq_true,(KZ h2).2] at this
      exact this.1
     have hnB:CL g (NZ M B0 full)=true:=xN hb2 fun j e hj hb=>by
      obtain ⟨jt,h1,h2⟩:=oF hj
      have:=I7 j jt h1 hb
      obtain ⟨b,t',c'⟩:=e
      unfold IX at this
      rw [Bool.and_eq_true,h2] at this
      exact this.2
     have hnG:mH (MO M Γ0 full) g=none:=by
      cases e:mH (MO M Γ0 full) g with
      | none=>rfl
      | some S' =>
       exfalso
       rw [tH] at e
       rcases F3 e with ⟨j,h1,h2⟩ | h
       · obtain ⟨jt,h3,h4⟩:=oF h1
         have:=Yb j i jt _ g S' S.S h3 hit h4 rfl
         rw [this,iZ,hbi] at h2;cases h2
       · rw [tH,h] at hb3;cases hb3
     refine ay hoi hop hd' (gH (tK.mW hg) α γ) (wO (tK.evs hx)) hf (Calls.mono (Bl α γ w aat) ?_)
     rintro e w' ⟨F,hF,rfl,hR,hE⟩
     have hH1:=hH.ext hE
     have Jw:=hH1.add g S.S F hnB hF ⟨hR,hH1.SX⟩ hnG
     refine ⟨_,rfl,trivial,α,upd γ g F,(Jw.congr (Aw rfl)).yT fun q=>?_,fun q v hv=>?_⟩
     · rw [ghK];rfl
     · rw [eT,Ey] at hv
       rw [I6]
       dsimp only at hv
       cases hb:Nat.beq d q with
       | true=>rw [hb] at hv;exact hv
       | false =>
        rw [hb] at hv
        dsimp only
        rw [← kQ (F:=F) _ hnF,eT];exact hv
    | eff o' d g S res rd gs ho' hd' hg Bl =>
     obtain rfl:=Option.some.inj (hoi.symm.trans (by rw [← uR];exact ho'))
     obtain ⟨hb1,hb2,hb3⟩:=kg (hbase i _ g S.S hit rfl)
     have I7:∀ j jt,At full j jt→tb M j=true→IX g jt=true:=by
      intro j jt hj hb
      have hne:j≠i:=fun e=>by rw [e,iZ,hbi] at hb;cases hb
      rcases (zA j jt hj hne).2.2.2.2.2.1 g S.S rfl with h | ⟨h1,h2⟩
      · exact h
      · rw [iZ,R5 j jt hj h1 h2] at hb;cases hb
     have hnF:DL g (RV M l0 full)=true:=xM hb1 fun j e hj hb=>by
      obtain ⟨jt,h1,h2⟩:=oF hj
      have:=I7 j jt h1 hb
      unfold IX at this
      rw [Bool.and_eq_true,(KZ h2).2] at this
      exact this.1
     have hnB:CL g (NZ M B0 full)=true:=xN hb2 fun j e hj hb=>by
      obtain ⟨jt,h1,h2⟩:=oF hj
      have:=I7 j jt h1 hb
      obtain ⟨b,t',c'⟩:=e
      unfold IX at this
      rw [Bool.and_eq_true,h2] at this
      exact this.2
     have hnG:mH (MO M Γ0 full) g=none:=by
      cases e:mH (MO M Γ0 full) g with
      | none=>rfl
      | some S' =>
       exfalso
       rw [tH] at e
       rcases F3 e with ⟨j,h1,h2⟩ | h
       · obtain ⟨jt,h3,h4⟩:=oF h1
         have:=Yb j i jt _ g S' S.S h3 hit h4 rfl
         rw [this,iZ,hbi] at h2;cases h2
       · rw [tH,h] at hb3;cases hb3
     obtain ⟨F,w',hF,hrun,hR,hE⟩:=Bl α γ w aat
     have hH1:=hH.ext hE
     have Jw:=hH1.add g S.S F hnB hF ⟨hR,hH1.SX⟩ hnG
     refine lM hoi hd' (gH (tK.mW hg) α γ) (fun ρ hρ=>hrun ρ (tK.cons hρ)) trivial ⟨α,upd γ g F,(Jw.congr (Aw rfl)).yT fun q=>?_,fun q v hv=>?_⟩
     · rw [ghK];rfl
     · rw [eT,Ey] at hv
       rw [I6]
       dsimp only at hv
       cases hb:Nat.beq d q with
       | true=>rw [hb] at hv;exact hv
       | false =>
        rw [hb] at hv
        dsimp only
        rw [← kQ (F:=F) _ hnF,eT];exact hv
end Go.Proofs.YtdpmbgomcjnohaaGreatDoor.Rf
