/- Regions that draw their order, walked one operation after another in the text's order. -/
import Derived.Test.YtgcieamfidoaoaaGreatDoorEag
import Derived.Below
import Derived.Laws.OwnMore
import Derived.Laws.AppendOwn
import Derived.Laws.BitsAllLaws
import Derived.Laws.Bits64
import Derived.Deep.AppendLies
import Derived.Deep.Draws
import Derived.Lib.Hide
import Derived.OwnWalk
import Derived.Test.YtgcieamfidoaoaaGreatDoorProg
import Derived.WalkKit
import Derived.ProofKit
import Derived.OpenShut
import Derived.JoinedCond
import Derived.RegionTactic
import Derived.LoopTactic
import Derived.BigQuiet
import Derived.Deep.QuietTactic
import Derived.Outline
import Derived.Deep.RegionHeld3
set_option linter.all false
set_option maxHeartbeats 8000000
namespace Go.Proofs.YtgcieamfidoaoaaGreatDoor.Rf
open Go Go.RowKit Go.Proofs.YtgcieamfidoaoaaGreatDoor.Pl
set_option maxRecDepth 100000
mutual
def gsO:SV→List Nat
 | .v _=>[]
 | .p _ _=>[]
 | .c g _=>[g]
 | .a l=>K8 l
 | .t l=>K8 l
 | .f _ fs cap=>K8 fs++K8 cap
def K8:List SV→List Nat
 | []=>[]
 | x::l=>gsO x++K8 l
end
def vG:Operand→List Nat
 | .tmp t=>[t]
 | _=>[]
def P6:List Operand→List Nat
 | []=>[]
 | x::l=>vG x++P6 l
def rdO:Op→List Nat
 | .move x=>vG x
 | .assign x=>vG x
 | .pick c x y=>vG c++(vG x++vG y)
 | .extract x _=>vG x
 | .fieldAddr _ x _=>vG x
 | .box _ x=>vG x
 | .load _ x=>vG x
 | .store _ x y=>vG x++vG y
 | _=>[]
def DK (L:List Oper):Option (Nat × Bool)→List Nat
 | none=>[]
 | some (j,_)=>match nth L j with
  | none=>[]
  | some o=>match o.dst with
   | none=>[]
   | some d=>[d]
def VP (l:Fr):Op→List Nat
 | .load _ x=>match ev l x with
  | some (.p b _)=>[b]
  | _=>[]
 | .store _ x _=>match ev l x with
  | some (.p b _)=>[b]
  | _=>[]
 | _=>[]
def SQ (T:TI) (L:List Oper) (ord:Option (List Nat)) (l0:Fr) (B0:Bx) (k:Nat) (tr:Tr):Option (It × Nat):=match nth L (oi ord tr.length) with
 | none=>none
 | some o=>match kI (uX l0 tr) (DK L o.guard++rdO o.op) with
  | lr=>match jT L lr o.guard with
   | none=>none
   | some false=>match o.dst with
    | some d=>some (⟨some d,.v undef,DK L o.guard++rdO o.op,[],[],none,none,none⟩,k)
    | none=>none
   | some true=>match Di T lr (A8 (SF B0 tr) (VP lr o.op)) o.op with
    | none=>none
    | some (.pure s)=>match o.dst with
     | some d=>some (⟨some d,s,DK L o.guard++rdO o.op,VP lr o.op,[],none,none,none⟩,k)
     | none=>none
    | some (.new t cs)=>match o.dst,qK k cs with
     | some d,true=>some (⟨some d,.p k 0,DK L o.guard++rdO o.op,VP lr o.op,[],some (k,t,cs),some k,none⟩,Nat.succ k)
     | _,_=>none
    | some (.put b t cs)=>match o.dst with
     | none=>some (⟨none,.v undef,DK L o.guard++rdO o.op,VP lr o.op,[],some (b,t,cs),none,none⟩,k)
     | some _=>none
def VQ (T:TI) (L:List Oper) (ord:Option (List Nat)) (l0:Fr) (B0:Bx):Nat→Nat→Tr→Tr × Nat
 | 0,k,tr=>(tr,k)
 | f+1,k,tr=>match SQ T L ord l0 B0 k tr with
  | some (it,k')=>VQ T L ord l0 B0 f k' (it::tr)
  | none=>(tr,k)
section
variable {P:Program} {Q:Exit→Act→World→Prop} {n:Nat} {ds:List Deferred} {w0:World} {cs:List Code} {l0:Fr} {B0:Bx} {Γ0:Gm} {L:List Oper} {ord:Option (List Nat)}
theorem SS {T:TI} (hT:E8 P T) {k k':Nat} {tr:Tr} {it:It} (h:SQ T L ord l0 B0 k tr=some (it,k')):Gy P L w0 l0 B0 Γ0 (oi ord tr.length) tr it:=by
 unfold SQ at h
 split at h
 · cases h
 · next o ho =>
   dsimp only at h
   split at h
   · cases h
   · next hg =>
     split at h
     · next d hd=>cases h;exact .skip o d _ ho hd hg
     · cases h
   · next hg =>
     split at h
     · cases h
     · next s hx =>
       split at h
       · next d hd=>cases h;exact .pure o d s _ _ [] ho hd hg fun α γ w hH=>Gq hT hH hx
       · cases h
     · next t c hx =>
       split at h
       · next d hd hk=>cases h;exact .new o d _ t c _ _ [] ho hd hg hk fun α γ w hH=>Gq hT hH hx
       · cases h
     · next b t c hx =>
       split at h
       · next hd=>cases h;exact .put o b t c _ _ [] (.v undef) ho hd hg fun α γ w hH=>Gq hT hH hx
       · cases h
theorem M6 {T:TI} (hT:E8 P T):∀ (f:Nat) {k:Nat} {tr:Tr},EL P L w0 l0 B0 Γ0 ord tr→EL P L w0 l0 B0 Γ0 ord (VQ T L ord l0 B0 f k tr).1
 | 0,_,_,h=>h
 | f+1,k,tr,h=>by
  unfold VQ
  split
  · next it k' hx=>exact M6 hT f ⟨SS hT hx,h⟩
  · exact h
def DA (P:Program) (Q:Exit→Act→World→Prop) (n:Nat) (ds:List Deferred) (w0:World) (cs:List Code) (L:List Oper) (ord:Option (List Nat)) (l0:Fr) (B0:Bx) (Γ0:Gm) (tr:Tr):Prop :=
 EL P L w0 l0 B0 Γ0 ord tr→∀ α γ w,Holds w0 B0 Γ0 α γ w→G P L (fun _=>True) (Ks P Q cs) n ds L.toArray.size 0 (gI α γ l0) w
theorem aQ {id:Nat} (ord:Option (List Nat)) (hm:P.follows .mixedOrders=true) (h:DA P Q n ds w0 cs L ord l0 B0 Γ0 []):HV P Q n ds w0 (.region id L.toArray true::cs) l0 B0 Γ0:=fun α γ w hH =>
 FZ (S:=fun _=>True) hm trivial fun _=>h trivial α γ w.drew (hH.ext (Ex.drew w))
theorem aD {T:TI} (hT:E8 P T) (f k:Nat) {k':Nat} {tr tr':Tr} (e:VQ T L ord l0 B0 f k tr=(tr',k')) (h:DA P Q n ds w0 cs L ord l0 B0 Γ0 tr'):DA P Q n ds w0 cs L ord l0 B0 Γ0 tr:=fun ha=>h (by
 have:=M6 hT f (k:=k) ha
 rwa [e] at this)
def XA:List Nat→List Nat→List Nat
 | [],acc=>acc
 | t::ts,acc=>XA ts (acc++[upto t acc acc.length])
def afy (T:List Nat):=XA T []
def XB (n:Nat) (L:List Oper) (ord:Option (List Nat)) (l0:Fr) (B0:Bx) (Γ0:Gm) (full:Tr) (lD:List Nat):Bool :=
 Nat.beq full.length L.length&&(CK n L&&(Dr ord L.length&&(SL L.length (tabs L.toArray)&&(EK lD (vU (tabs L.toArray) ord L.length L.length) lD 0&&SK lD l0 B0 Γ0 full full))))
theorem aW {full:Tr} (hk:XB n L ord l0 B0 Γ0 full (afy (vU (tabs L.toArray) ord L.length L.length))=true) (hV:HV P Q n ds w0 cs (uX l0 full) (SF B0 full) (E5 Γ0 full)):DA P Q n ds w0 cs L ord l0 B0 Γ0 full:=fun ha α γ w hH=>by
 unfold XB at hk
 rw [Bool.and_eq_true,Bool.and_eq_true,Bool.and_eq_true,Bool.and_eq_true,Bool.and_eq_true] at hk
 obtain ⟨h1,h2,h5,h6,h3,h4⟩:=hk
 have hz:∀ {X:Type} (base:List (Nat × X)) (xs:List (Option (Nat × X))),sel 0 base xs=base:=by
  intro X base xs
  induction xs with
  | nil=>rfl
  | cons x xs ih =>
   cases x with
   | none=>exact ih
   | some e =>
    unfold sel
    rw [show tb 0 xs.length=false by rw [jG,Nat.zero_testBit]]
    exact ih
 have VO:∀ N,rem 0 N=N:=by
  intro N
  induction N with
  | zero=>rfl
  | succ N ih=>unfold rem;rw [ih,Nat.zero_testBit,if_neg (by simp)]
 have h:=O7 (Nat.eq_of_beq_eq_true h1) h2 h5 h6 h3 h4 ha hV L.length 0 0 (VO _) (fun t _=>by rw [Nat.zero_testBit,Nat.zero_testBit]) (fun j t _ hb=>by rw [Nat.zero_testBit] at hb;cases hb) α γ w
 have e1:O5 0 B0 full=B0:=hz _ _
 have e2:MU 0 Γ0 full=Γ0:=hz _ _
 have e3:SG 0 l0 full=l0:=hz _ _
 rw [e1,e2,e3] at h
 have:=h hH
 simpa using this
theorem ZG {tr:Tr} {d:Nat} {o:Oper} {f:FuncId} {xs:List Operand} {ats:Array TypeId} {ss:List SV} {rd gs:List Nat} {lr:Fr} {Γr:Gm} (g:Nat) (S:RS) (res:SV)
  (ho:nth L (oi ord tr.length)=some o) (hop:o.op = .call { callee:=.value (.func f),args:=xs.toArray,argTypes:=ats }) (hd:o.dst=some d) (hrd:DK L o.guard++P6 xs=rd) (hlr:kI (uX l0 tr) rd=lr) (hg:jT L lr o.guard=some true)
  (hx:evs lr xs=some ss) (hgs:K8 ss=gs) (hΓ:qj (E5 Γ0 tr) gs=Γr) (hf:∀ (u:Array Value) X,(callFunc f u).run P X = .ok (.enter f u) X)
  (BM:∀ α γ w,Holds w0 [] Γr α γ w→Calls P f (bZ α γ ss).toArray w (fun e w'=>∃ F,(∀ k,bG (F k)=true)∧e = .returned (den α (upd γ g F) res)∧S.R w' F∧Ex w w'))
  (h:DA P Q n ds w0 cs L ord l0 B0 Γ0 (⟨some d,res,rd,[],gs,none,none,some (g,S.S)⟩::tr)):DA P Q n ds w0 cs L ord l0 B0 Γ0 tr:=fun ha=>h (by
 subst hΓ hlr
 exact ⟨.call o d g S.S res rd gs f (.func f) [] [] xs ats ss ho hop hd hg (.inr ⟨rfl,rfl,rfl⟩) hx hf (fun α γ w hH=>Calls.mono (uJ (BM α γ w hH)) fun e w' ⟨F,h1,h2,h3,h4⟩=>⟨F,h1,h2,RS.new h3 h4,h4⟩),ha⟩)
theorem BN {tr:Tr} {d:Nat} {o:Oper} {rd:List Nat} {lr:Fr} {Γr:Gm} (s:SV) (Pw gs:List Nat) (ho:nth L (oi ord tr.length)=some o) (hd:o.dst=some d) (hrd:DK L o.guard++Pw=rd) (hlr:kI (uX l0 tr) rd=lr) (hg:jT L lr o.guard=some true) (hΓ:qj (E5 Γ0 tr) gs=Γr)
  (hr:∀ α γ w,Holds w0 [] Γr α γ w→∀ ρ,Cons ρ (gI α γ lr)→(execOp ρ o).run P w = .ok (.value (den α γ s)) w)
  (h:DA P Q n ds w0 cs L ord l0 B0 Γ0 (⟨some d,s,rd,[],gs,none,none,none⟩::tr)):DA P Q n ds w0 cs L ord l0 B0 Γ0 tr:=fun ha=>h (by
 subst hΓ hlr
 exact ⟨.pure o d s rd [] gs ho hd hg hr,ha⟩)
theorem Be {tr:Tr} {d:Nat} {o:Oper} {rd gs:List Nat} {lr:Fr} {Γr:Gm} {op:BinOp} {tx ty:TypeId} {x y:Operand} {sx sy:SV} (s:SV) (ho:nth L (oi ord tr.length)=some o) (hop:o.op = .binOp op tx x y ty) (hd:o.dst=some d) (hrd:DK L o.guard++(vG x++vG y)=rd) (hlr:kI (uX l0 tr) rd=lr) (hg:jT L lr o.guard=some true)
  (hx:ev lr x=some sx) (hy:ev lr y=some sy) (hgs:gsO sx++gsO sy=gs) (hΓ:qj (E5 Γ0 tr) gs=Γr)
  (hr:∀ α γ w,Holds w0 [] Γr α γ w→Bn P op tx x y (den α γ sx) (den α γ sy) w = .ok (den α γ s) w)
  (h:DA P Q n ds w0 cs L ord l0 B0 Γ0 (⟨some d,s,rd,[],gs,none,none,none⟩::tr)):DA P Q n ds w0 cs L ord l0 B0 Γ0 tr:=fun ha=>h (by
 subst hΓ hlr
 refine ⟨.pure o d s rd [] gs ho hd hg fun α γ w hH ρ hρ=>?_,ha⟩
 obtain ⟨dst,op',ty',pos,aft,gu⟩:=o
 cases hop
 refine dI _ w ?_
 rw [hρ.dK (bT hx),hρ.dK (bT hy)]
 exact hr α γ w hH)
theorem vo.look {l l':Fr} (h:vo l l') (α:Env) (γ:kR):∀ t v,Go.Proofs.YtgcieamfidoaoaaGreatDoor.Pl.look (gI α γ l) t=some v→Go.Proofs.YtgcieamfidoaoaaGreatDoor.Pl.look (gI α γ l') t=some v:=by
 intro t v hv
 rw [fJ] at hv ⊢
 cases hl:lk l t with
 | none=>rw [hl] at hv;cases hv
 | some s=>rw [hl] at hv;rw [h t s hl];exact hv
end
end Go.Proofs.YtgcieamfidoaoaaGreatDoor.Rf
/- Slices of 32-bit numbers: read, made by the call itself, appended to. -/
namespace Go.Proofs.YtgcieamfidoaoaaGreatDoor
open Go.RowKit
def lb (xs:List Nat) (j:Nat):Nat:=xs[j]?.getD 0
theorem fQ {xs:List Nat} {p:Nat} (hp:0<p) (h:∀ x∈xs,x<p) (j:Nat):lb xs j<p:=by
 unfold lb
 by_cases hj:j<xs.length
 · rw [List.getElem?_eq_getElem hj];exact h _ (List.getElem_mem hj)
 · rw [List.getElem?_eq_none (by omega)];exact hp
theorem dz {xs:List Nat} (h:∀ x∈xs,x<4294967296) (j:Nat):lb xs j<4294967296:=fQ (by decide) h j
theorem vZ {xs ys:List Nat} (hl:xs.length=ys.length) (h:∀ j,j<xs.length→lb xs j=lb ys j):xs=ys:=by
 apply List.ext_getElem hl
 intro i h1 h2
 have:=h i h1
 unfold lb at this
 rwa [List.getElem?_eq_getElem h1,List.getElem?_eq_getElem h2] at this
theorem jH {xs:List Nat} {k j:Nat} (h:j<k):lb (xs.take k) j=lb xs j:=by
 unfold lb;rw [List.getElem?_take,if_pos h]
theorem Mv (xs:List Nat) (q i:Nat):lb (xs.drop q) i=lb xs (q+i):=by unfold lb;rw [List.getElem?_drop]
theorem nI {o:List Nat} {j:Nat} (x:Nat) (h:j<o.length):lb (o.set j x) j=x:=by simp [lb,h]
theorem dA {o:List Nat} {i j:Nat} (x:Nat) (h:i≠j):lb (o.set i x) j=lb o j:=by simp [lb,h]
theorem BA (o:List Nat) (i j x:Nat) (h:i<o.length):lb (o.set i x) j=if i=j then x else lb o j:=by
 by_cases e:i=j
 · subst e;rw [if_pos rfl,nI x h]
 · rw [if_neg e,dA x e]
theorem jq (n j:Nat):lb (List.replicate n 0) j=0:=by
 unfold lb;by_cases h:j<n<;>simp [h]
theorem oI {o:List Nat} {j:Nat} (h:o.length≤j):lb o j=0:=by simp [lb,List.getElem?_eq_none h]
theorem yS (o u:List Nat) (j:Nat):lb (o++u) j=if j<o.length then lb o j else lb u (j-o.length):=by
 unfold lb;rw [List.getElem?_append];split<;>rfl
theorem iQ {o:List Nat} {j x b:Nat} (h:∀ y∈o,y<b) (hx:x<b):∀ y∈o.set j x,y<b:=by
 intro y hy
 rcases List.mem_or_eq_of_mem_set hy with h1 | h1
 · exact h y h1
 · omega
theorem rP {o:List Nat} {x b:Nat} (h:∀ y∈o,y<b) (hx:x<b):∀ y∈o++[x],y<b:=by
 intro y hy
 rcases List.mem_append.1 hy with h1 | h1
 · exact h y h1
 · obtain rfl:=List.mem_singleton.1 h1;exact hx
theorem OB {o:List Nat} {p:Nat} (h:∀ j,j<o.length→lb o j<p):∀ x∈o,x<p:=fun x hx=>by
 obtain ⟨j,hj,rfl⟩:=List.mem_iff_getElem.1 hx
 have:=h j hj
 unfold lb at this
 rwa [List.getElem?_eq_getElem hj] at this
theorem aL (a:Addr) (n:Nat):(a.add n).block=a.block:=by unfold Addr.add;split<;>rfl
theorem addr_add_add (a:Addr) (i j:Nat):(a.add i).add j=a.add (i+j):=by
 unfold Addr.add
 by_cases hi:i=0<;>by_cases hj:j=0<;>simp [hi,hj,Nat.add_assoc]
theorem kQ (a:Addr):a.add 0=a:=by simp [Addr.add]
theorem D7 (g j:Nat):(⟨g,0,none⟩:Addr).add j=⟨g,j,none⟩:=by unfold Addr.add;split<;>simp_all
def U (w:World) (v:Value) (xs:List Nat):Prop :=
 ∃ (A:Option Addr) (c:Nat),v = .slice A xs.length c∧(xs.length≤c∧xs.length≤9223372036854775807)∧(∀ x∈xs,x<4294967296) ∧
  (0<xs.length→∃ ad,A=some ad∧ad.block<w.heap.size∧∀ j,j<xs.length→w.cell? (ad.add j)=some (.int .u32 (lb xs j:Nat)))
theorem U.keep {w w':World} {v:Value} {xs:List Nat} (h:U w v xs) (hs:w.heap.size≤w'.heap.size) (hk:∀ p:Addr,p.block<w.heap.size→w'.cell? p=w.cell? p):U w' v xs:=by
 obtain ⟨A,c,rfl,hc,hx,hr⟩:=h
 refine ⟨A,c,rfl,hc,hx,fun h0=>?_⟩
 obtain ⟨ad,hA,hb,hcell⟩:=hr h0
 exact ⟨ad,hA,by omega,fun j hj=>(hk _ (by rw [aL];exact hb)).trans (hcell j hj)⟩
theorem U.below {w w':World} {v:Value} {xs:List Nat} (h:U w v xs) (hb:Below w.heap.size w w'):U w' v xs:=h.keep hb.size fun _ hp=>hb.cell hp
theorem U.lim {w:World} {v:Value} {xs:List Nat} (h:U w v xs):∀ x∈xs,x<4294967296:=by
 obtain ⟨A,c,rfl,hc,hx,hr⟩:=h;exact hx
theorem U.yX (w:World) (A:Option Addr) (c:Nat):U w (.slice A 0 c) []:=⟨A,c,rfl,⟨Nat.zero_le _,Nat.zero_le _⟩,by simp,fun h=>absurd h (by simp)⟩
theorem U.take {w:World} {A:Option Addr} {n c:Nat} {xs:List Nat} (h:U w (.slice A n c) xs) {k c':Nat} (hk:k≤n) (hc':k≤c'):U w (.slice A k c') (xs.take k):=by
 obtain ⟨A,c,hv,hc,hx,hr⟩:=h
 injection hv with h1 h2 h3
 subst h1 h2 h3
 have hlen:(xs.take k).length=k:=by simp;omega
 refine ⟨_,c',by rw [hlen],by omega,fun x hx'=>hx x (List.mem_of_mem_take hx'),fun h0=>?_⟩
 obtain ⟨ad,hA,hb,hcell⟩:=hr (by omega)
 refine ⟨ad,hA,hb,fun j hj=>?_⟩
 rw [hcell j (by omega),jH (by omega)]
def su (o:List Nat):List Value:=o.map fun x=>Value.int .u32 (x:Nat)
theorem wN (o:List Nat):(su o).length=o.length:=by simp [su]
theorem FT (o:List Nat) {j:Nat} (h:j<o.length):(su o)[j]?=some (.int .u32 (lb o j:Nat)):=by
 unfold su lb;simp [h]
theorem mW (a b:List Nat):su (a++b)=su a++su b:=by simp [su]
theorem Vk (a:List Nat) (i x:Nat):su (a.set i x)=(su a).set i (.int .u32 (x:Nat)):=by simp [su,List.map_set]
theorem OC (k:Nat):su (List.replicate k 0)=List.replicate k (.int .u32 0):=by simp [su]
def Own (w:World) (base:Nat) (v:Value) (o:List Nat):Prop:=w.ownsRow base 57 1 v o.length (su o)
theorem Own.BJ {w:World} {base:Nat} {v:Value} {o:List Nat} (h:Own w base v o) (hx:∀ x∈o,x<4294967296) (hm:o.length≤9223372036854775807):U w v o:=by
 have h0:w.ownsRow base 57 1 v o.length (su o):=h
 rcases h0.2 with ⟨rfl,h1⟩ | ⟨g,cap,cur,rfl,hg,hh,h1,h2,h3,h4⟩
 · refine ⟨none,0,by rw [h1],by omega,hx,fun hp=>absurd hp (by omega)⟩
 · refine ⟨_,cap,rfl,⟨h1,hm⟩,hx,fun hp=>⟨_,rfl,(h0.lt g rfl).2,fun j hj=>?_⟩⟩
   exact h0.cells (g:=g) rfl j _ (FT o hj)
theorem Own.cell {w:World} {base g c:Nat} {o:List Nat} (h:Own w base (.slice (some ⟨g,0,none⟩) o.length c) o) {j:Nat} (hj:j<o.length):w.cell? ⟨g,j,none⟩=some (.int .u32 (lb o j:Nat)):=by
 rw [World.ownsRow.cellAt h j (by omega)];exact FT o hj
theorem Own.frozen {w:World} {base g c:Nat} {o:List Nat} (h:Own w base (.slice (some ⟨g,0,none⟩) o.length c) o) (j:Nat):w.frozen? ⟨g,j,none⟩=false:=World.ownsRow.frozenAt h j
theorem Own.qO {w:World} {base g c:Nat} {o:List Nat} (h:Own w base (.slice (some ⟨g,0,none⟩) o.length c) o) (j x:Nat):Own (w.setCell ⟨g,j,none⟩ (.int .u32 (x:Nat))) base (.slice (some ⟨g,0,none⟩) (o.set j x).length c) (o.set j x):=by
 have:=(World.ownsRow.stored h j (.int .u32 (x:Nat))).1
 unfold Own
 rw [Vk,List.length_set]
 exact this
theorem Own.drew {w:World} {base:Nat} {v:Value} {o:List Nat} (h:Own w base v o):Own w.drew base v o:=h
theorem Own.alloc {w:World} {base:Nat} {v:Value} {o:List Nat} (h:Own w base v o) (x:Obj):Own (w.alloc x) base v o:=World.ownsRow.alloc h x
theorem Own.block {w:World} {base g n c:Nat} {o:List Nat} (h:Own w base (.slice (some ⟨g,0,none⟩) n c) o):base≤g∧g<w.heap.size:=by
 have h0:w.ownsRow base 57 1 (.slice (some ⟨g,0,none⟩) n c) o.length (su o):=h
 exact h0.lt g rfl
theorem Own.caps {w:World} {base g n c:Nat} {o:List Nat} (h:Own w base (.slice (some ⟨g,0,none⟩) n c) o):n=o.length∧n≤c∧c≤maxLen:=by
 rcases h.2 with ⟨h1,_⟩ | ⟨g',cap,cur,h1,hg,hh,h2,h3,h4,h5⟩
 · cases h1
 · injection h1 with e1 e2 e3
   subst e2 e3
   exact ⟨rfl,h2,h3⟩
theorem Own.below {w w':World} {base B:Nat} {v:Value} {o:List Nat} (h:Own w base v o) (hB:Below B w w') (hv:∀ g,v.ownBlock=some g→g<B):Own w' base v o:=by
 refine ⟨h.1,?_⟩
 rcases h.2 with hn | ⟨g,cap,cur,rfl,hb,hgg,rest⟩
 · exact .inl hn
 · refine .inr ⟨g,cap,cur,rfl,hb,?_,rest⟩
   rw [hB.block g (hv g rfl)]
   exact hgg
theorem Own.zeros {w:World} {base g:Nat} {n:Nat} (h:w.ownsRow base 57 1 (.slice (some ⟨g,0,none⟩) n n) n (madeCells (Value.int .u32 0).cells (n*1)).toList) :
  Own w base (.slice (some ⟨g,0,none⟩) (List.replicate n 0).length n) (List.replicate n 0):=by
 have e:(madeCells (Value.int .u32 0).cells (n*1)).toList=su (List.replicate n 0):=by
  rw [OC,Nat.mul_one];exact toList_madeCells_one _ _
 rw [e] at h
 unfold Own
 rw [List.length_replicate]
 exact h
def okV (r:Result Value):Value:=match r with | .ok v _=>v | _=>undef
def okW (w:World) (r:Result Value):World:=match r with | .ok _ w'=>w' | _=>w
def WZ (P:Program) (t ty:TypeId) (s x:Value) (w:World):Prop:=∃ v w',(Builtin.append_ #[t,t] ty #[s,x]).run P w = .ok v w'
def AV (P:Program) (t ty:TypeId) (s x:Value) (w:World):Value:=okV ((Builtin.append_ #[t,t] ty #[s,x]).run P w)
def AW (P:Program) (t ty:TypeId) (s x:Value) (w:World):World:=okW w ((Builtin.append_ #[t,t] ty #[s,x]).run P w)
def acf (ts:Array TypeId) (ty:TypeId) (args:Array Value):Sem Value:=Builtin.append_ ts ty args
theorem oL (ts:Array TypeId) (ty:TypeId) (args:Array Value):Builtin.append_ ts ty args=acf ts ty args:=rfl
theorem iy {P:Program} {t ty:TypeId} {s x:Value} {w:World} (h:WZ P t ty s x w) :
  (acf #[t,t] ty #[s,x]).run P w = .ok (AV P t ty s x w) (AW P t ty s x w):=by
 obtain ⟨v,w',h⟩:=h
 unfold AV AW acf
 rw [h]
 rfl
theorem jc {P:Program} {t ty:TypeId} {s x:Value} {w:World} {v:Value} {w':World} (h:(Builtin.append_ #[t,t] ty #[s,x]).run P w = .ok v w') :
  WZ P t ty s x w∧AV P t ty s x w=v∧AW P t ty s x w=w':=by
 refine ⟨⟨v,w',h⟩,?_,?_⟩
 · unfold AV;rw [h];rfl
 · unfold AW;rw [h];rfl
theorem oJ:(Tryz.prog.info? 57).map (fun i=>(i.zero,i.size,i.bytes))=some (some (.int .u32 0),1,4):=by kernel_rfl
theorem AX {P:Program} (w:World) (base:Nat) (t ty e:TypeId) (i:TypeInfo) (size:Nat) (ht:P.underlying t=some (.slice e)) (hi:P.info? e=some i)
  (v:Value) (n c:Nat) (xs:List Value) (hown:w.ownsRow base e size v n xs) :
  (Builtin.append_ #[t,t] ty #[v,.slice none 0 c]).run P w = .ok v w:=by
 rcases hown.2 with ⟨rfl,rfl⟩ | ⟨g,cap,cur,rfl,_,_,hnc,_⟩
 · simp [Builtin.append_,run_underlying ht,sizeOf,typeInfo,hi,Builtin.lenOf,Builtin.firstCells]
 · simp [Builtin.append_,run_underlying ht,sizeOf,typeInfo,hi,Builtin.lenOf,Builtin.firstCells,hnc,storeCells]
theorem qW (w:World) (base:Nat) (v:Value) (o:List Nat) (hown:Own w base v o) (x:Value) (ys:List Nat) (hx:U w x ys) (hlen:o.length+ys.length≤35184372088832) (hbase:base≤w.heap.size) :
  ∃ v' w',(Builtin.append_ #[24,24] 24 #[v,x]).run Tryz.prog w = .ok v' w'∧Own w' base v' (o++ys)∧w.grownBy w' v.ownBlock:=by
 obtain ⟨i0,hi,hz0,hz1,hz2⟩:=info_parts oJ
 obtain ⟨A,c,rfl,⟨h1,h2⟩,hlt,hr⟩:=hx
 cases A with
 | none =>
  have h0:ys.length=0:=by
   rcases Nat.eq_zero_or_pos ys.length with h0 | h0
   · exact h0
   · obtain ⟨ad,h,_⟩:=hr h0;cases h
  obtain rfl:=List.eq_nil_of_length_eq_zero h0
  refine ⟨v,w,AX w base 24 24 57 i0 1 Tryz.underlying24 hi v _ c _ hown,by rw [List.append_nil];exact hown,World.grownBy.refl w _⟩
 | some ad =>
  have hcells:∀ j u,(su ys)[j]?=some u→w.cell? (ad.add j)=some u:=fun j u hj=>by
   have hjl:j<ys.length:=by
    rcases Nat.lt_or_ge j ys.length with h | h
    · exact h
    · rw [List.getElem?_eq_none (by rw [wN];exact h)] at hj;cases hj
   obtain ⟨ad',e',_,hcell⟩:=hr (by omega)
   replace e':=Option.some.inj e'
   subst e'
   rw [hcell j hjl,← FT ys hjl,hj]
  obtain ⟨v',w',hrun,hown',hg,_⟩:=run_append_own (P:=Tryz.prog) w base 24 24 57 i0 (.int .u32 0) 1 4 Tryz.underlying24 hi hz0 hz1 hz2 rfl (by decide) v o.length (su o) hown ad ys.length c (su ys) (by rw [wN,Nat.mul_one]) hcells
   (by intro u hu;obtain ⟨z,_,rfl⟩:=List.mem_map.1 hu;rfl) (by unfold maxLen;omega) (by omega) hbase
  exact ⟨v',w',hrun,by unfold Own;rw [mW,List.length_append];exact hown',hg⟩
def Ext (a b:World):Prop:=Below a.heap.size a b
theorem Ext.refl (w:World):Ext w w:=Below.refl _ _
theorem Ext.alloc {a b:World} (h:Ext a b) (o:Obj):Ext a (b.alloc o):=Below.alloc h h.size o
theorem Ext.below {a b c:World} (h:Ext a b) (k:Ext b c):Ext a c:=Below.trans h (Below.mono k h.size)
theorem Ext.drew {a b:World} (h:Ext a b):Ext a b.drew:=Below.drew h
theorem U.alloc {w:World} {v:Value} {xs:List Nat} (h:U w v xs) (o:Obj):U (w.alloc o) v xs:=U.below h ((Ext.refl w).alloc o)
theorem iF (w:World) (n:Nat):Ext w (w.drewN n):=⟨rfl,rfl,rfl,Nat.le_refl _,fun _ _=>rfl⟩
theorem Hu (w:World) (xs:List Nat) (hx:∀ x∈xs,x<4294967296) (hm:xs.length≤1000000):U (w.alloc (.cells (su xs).toArray 57)) (.slice (some ⟨w.heap.size,0,none⟩) xs.length xs.length) xs:=by
 refine Own.BJ (base:=w.heap.size) ?_ hx (by omega)
 have:=World.ownsRow_lit (base:=w.heap.size) (e := 57) (size:=1) w (su xs).toArray xs.length (Nat.le_refl _) (by unfold maxLen;omega) (by simp [wN])
 simpa [Own] using this
theorem nE {k:IntKind} {a b:Int} (h:a=b):Ending.returned (.int k a) = .returned (.int k b):=by rw [h]
end Go.Proofs.YtgcieamfidoaoaaGreatDoor
/- Lengths in bits. -/
namespace Go.Proofs.YtgcieamfidoaoaaGreatDoor
open Go.RowKit
def bJ (n:Nat):Nat:=if n=0 then 0 else n.log2+1
theorem iZ (n:Nat):n<2^bJ n:=by
 unfold bJ
 split
 · subst_vars;decide
 · exact Nat.lt_log2_self
theorem sG {n:Nat} (h:n≠0):2^(bJ n-1)≤n:=by
 unfold bJ
 rw [if_neg h,Nat.add_sub_cancel]
 exact Nat.log2_self_le h
theorem Sa {n:Nat} (h:n≠0):0<bJ n:=by unfold bJ;rw [if_neg h];omega
theorem cZ {n k:Nat} (h:n<2^k):bJ n≤k:=by
 by_cases h0:n=0
 · subst h0;exact Nat.zero_le _
 · have h1:=Nat.lt_of_le_of_lt (sG h0) h
   have:=(Nat.pow_lt_pow_iff_right (by decide:1<2)).1 h1
   omega
theorem mZ {n k:Nat} (h:2^k≤n):k<bJ n:=by
 have h1:=Nat.lt_of_le_of_lt h (iZ n)
 exact (Nat.pow_lt_pow_iff_right (by decide:1<2)).1 h1
theorem Vu {n k:Nat} (h1:2^k≤n) (h2:n<2^(k+1)):bJ n=k+1:=by
 have:=mZ h1
 have:=cZ h2
 omega
theorem lu (n k:Nat) (h:n/2^k≠0):bJ n=k+bJ (n/2^k):=by
 have hp:=Sa h
 have h1:=sG h
 have h2:=iZ (n/2^k)
 have hk:0<2^k:=Nat.two_pow_pos k
 have g1:2^(k+bJ (n/2^k)-1)≤n:=by
  have:k+bJ (n/2^k)-1=(bJ (n/2^k)-1)+k:=by omega
  rw [this,Nat.pow_add]
  exact Nat.le_trans (Nat.mul_le_mul_right _ h1) (Nat.div_mul_le_self n (2^k))
 have g2:n<2^(k+bJ (n/2^k)):=by
  rw [Nat.pow_add]
  exact Nat.lt_mul_of_div_lt h2 hk |> fun h=>by rwa [Nat.mul_comm] at h
 have a:=cZ g2
 have b:=mZ g1
 omega
def wW:ByteArray:=⟨((List.range 256).map fun n=>UInt8.ofNat (bJ n)).toArray⟩
theorem ED:wW.size=256:=by decide +kernel
theorem Sb:∀ p:Fin 256,(wW[p.val]'(by rw [ED];exact p.isLt)).toNat=bJ p.val:=by decide +kernel
theorem nW:(⟨(([0,1,2,2,3,3,3,3,4,4,4,4,4,4,4,4,5,5,5,5,5,5,5,5,5,5,5,5,5,5,5,5,6,6,6,6,6,6,6,6,6,6,6,6,6,6,6,6,6,6,6,6,6,6,6,6,6,6,6,6,6,6,6,6].append [7,7,7,7,7,7,7,7,7,7,7,7,7,7,7,7,7,7,7,7,7,7,7,7,7,7,7,7,7,7,7,7,7,7,7,7,7,7,7,7,7,7,7,7,7,7,7,7,7,7,7,7,7,7,7,7,7,7,7,7,7,7,7,7]).append ([8,8,8,8,8,8,8,8,8,8,8,8,8,8,8,8,8,8,8,8,8,8,8,8,8,8,8,8,8,8,8,8,8,8,8,8,8,8,8,8,8,8,8,8,8,8,8,8,8,8,8,8,8,8,8,8,8,8,8,8,8,8,8,8].append [8,8,8,8,8,8,8,8,8,8,8,8,8,8,8,8,8,8,8,8,8,8,8,8,8,8,8,8,8,8,8,8,8,8,8,8,8,8,8,8,8,8,8,8,8,8,8,8,8,8,8,8,8,8,8,8,8,8,8,8,8,8,8,8])).toArray⟩:ByteArray)=wW:=by decide +kernel
theorem lT {P:Program} (t:TypeId) (ht:P.underlying t=some .string) (k:IntKind) (i:Nat) (hi:i<256) (w:World) :
  (Instr.index t (.string wW) (.int k (i:Int))).run P w = .ok (.int .u8 (bJ i:Nat)) w:=by
 rw [run_index_string w t wW k _ ht,dif_pos ⟨by omega,by rw [ED];omega⟩]
 have e:((i:Int)).toNat=i:=by omega
 simp only [e]
 rw [Sb ⟨i,hi⟩]
theorem Vv (w:World) (x:Nat) (h:x<256) :
  Calls Tryz.prog 142 #[.int .u32 x] w fun e w'=>e = .returned (.int .i64 (bJ x:Nat))∧w=w':=by
 have Wl:decide ((65536:Int)≤(x:Nat))=false:=by rw [decide_eq_false_iff_not];omega
 have G7:decide ((256:Int)≤(x:Nat))=false:=by rw [decide_eq_false_iff_not];omega
 have HF:Hid (bJ x=bJ (x%256)):=by rw [Hid,Nat.mod_eq_of_lt h]
 have hI:=fun w=>lT (P:=Tryz.prog) 9 Tryz.underlying9 .u8 (x%256) (by omega) w
 have hB:=cZ (n:=x%256) (k:=8) (by omega)
 have hv:((x%256:Nat):Int)=(x:Int)%256:=by omega
 rw [hv] at hI
 clear hv
 generalize bJ (x%256)=b at *
 go_enter Tryz.func142,Tryz.ntmps142
 generalize hT:(ByteArray.mk _:ByteArray)=T
 have wV:T=wW:=by rw [← hT];exact nW
 rw [← wV] at hI
 clear hT wV h
 go_wp2
 go_ret
 exact ⟨by rw [HF.out];first | rfl | exact nE (by omega),rfl⟩
theorem Vw (w:World) (x:Nat) (h:256≤x) (h2:x<65536) :
  Calls Tryz.prog 142 #[.int .u32 x] w fun e w'=>e = .returned (.int .i64 (bJ x:Nat))∧w=w':=by
 have Wl:decide ((65536:Int)≤(x:Nat))=false:=by rw [decide_eq_false_iff_not];omega
 have G7:decide ((256:Int)≤(x:Nat))=true:=by rw [decide_eq_true_iff];omega
 have HF:Hid (bJ x=8+bJ (x/256%256)):=by
  rw [Hid,Nat.mod_eq_of_lt (by omega)];exact lu x 8 (by simp only [Nat.reducePow];omega)
 have hI:=fun w=>lT (P:=Tryz.prog) 9 Tryz.underlying9 .u8 (x/256%256) (by omega) w
 have hB:=cZ (n:=x/256%256) (k:=8) (by omega)
 have hv:((x/256%256:Nat):Int)=(x:Int)/256%256:=by omega
 rw [hv] at hI
 clear hv
 generalize bJ (x/256%256)=b at *
 go_enter Tryz.func142,Tryz.ntmps142
 generalize hT:(ByteArray.mk _:ByteArray)=T
 have wV:T=wW:=by rw [← hT];exact nW
 rw [← wV] at hI
 clear hT wV h h2
 go_wp2
 go_ret
 exact ⟨by rw [HF.out];first | rfl | exact nE (by omega),rfl⟩
theorem Vx (w:World) (x:Nat) (h:65536≤x) (h2:x<16777216) :
  Calls Tryz.prog 142 #[.int .u32 x] w fun e w'=>e = .returned (.int .i64 (bJ x:Nat))∧w=w':=by
 have Wl:decide ((65536:Int)≤(x:Nat))=true:=by rw [decide_eq_true_iff];omega
 have G7:decide ((256:Int)≤(x:Nat)/65536)=false:=by rw [decide_eq_false_iff_not];omega
 have HF:Hid (bJ x=16+bJ (x/65536%256)):=by
  rw [Hid,Nat.mod_eq_of_lt (by omega)];exact lu x 16 (by simp only [Nat.reducePow];omega)
 have hI:=fun w=>lT (P:=Tryz.prog) 9 Tryz.underlying9 .u8 (x/65536%256) (by omega) w
 have hB:=cZ (n:=x/65536%256) (k:=8) (by omega)
 have hv:((x/65536%256:Nat):Int)=(x:Int)/65536%256:=by omega
 rw [hv] at hI
 clear hv
 generalize bJ (x/65536%256)=b at *
 go_enter Tryz.func142,Tryz.ntmps142
 generalize hT:(ByteArray.mk _:ByteArray)=T
 have wV:T=wW:=by rw [← hT];exact nW
 rw [← wV] at hI
 clear hT wV h h2
 go_wp2
 go_ret
 exact ⟨by rw [HF.out];first | rfl | exact nE (by omega),rfl⟩
theorem Vy (w:World) (x:Nat) (h:16777216≤x) (h2:x<4294967296) :
  Calls Tryz.prog 142 #[.int .u32 x] w fun e w'=>e = .returned (.int .i64 (bJ x:Nat))∧w=w':=by
 have Wl:decide ((65536:Int)≤(x:Nat))=true:=by rw [decide_eq_true_iff];omega
 have G7:decide ((256:Int)≤(x:Nat)/65536)=true:=by rw [decide_eq_true_iff];omega
 have HF:Hid (bJ x=24+bJ (x/65536/256%256)):=by
  rw [Hid,Nat.div_div_eq_div_mul,Nat.mod_eq_of_lt (by omega)];exact lu x 24 (by simp only [Nat.reducePow];omega)
 have hI:=fun w=>lT (P:=Tryz.prog) 9 Tryz.underlying9 .u8 (x/65536/256%256) (by omega) w
 have hB:=cZ (n:=x/65536/256%256) (k:=8) (by omega)
 have hv:((x/65536/256%256:Nat):Int)=(x:Int)/65536/256%256:=by omega
 rw [hv] at hI
 clear hv
 generalize bJ (x/65536/256%256)=b at *
 go_enter Tryz.func142,Tryz.ntmps142
 generalize hT:(ByteArray.mk _:ByteArray)=T
 have wV:T=wW:=by rw [← hT];exact nW
 rw [← wV] at hI
 clear hT wV h h2
 go_wp2
 go_ret
 exact ⟨by rw [HF.out];first | rfl | exact nE (by omega),rfl⟩
theorem Ai (w:World) (x:Nat) (h:x<4294967296) :
  Calls Tryz.prog 142 #[.int .u32 x] w fun e w'=>e = .returned (.int .i64 (bJ x:Nat))∧w=w':=by
 rcases Nat.lt_or_ge x 256 with h1 | h1
 · exact Vv w x h1
 · rcases Nat.lt_or_ge x 65536 with h2 | h2
   · exact Vw w x h1 h2
   · rcases Nat.lt_or_ge x 16777216 with h3 | h3
     · exact Vx w x h2 h3
     · exact Vy w x h3 h
end Go.Proofs.YtgcieamfidoaoaaGreatDoor
/- A transform in its place, on the way down. -/
namespace Go.Proofs.YtgcieamfidoaoaaGreatDoor
open Go.RowKit
def But (g:Nat) (a b:World):Prop:=a.grownBy b (some g)
theorem But.refl (g:Nat) (w:World):But g w w:=World.grownBy.refl w _
theorem But.trans {g:Nat} {a b c:World} (h:But g a b) (k:But g b c):But g a c :=
 ⟨k.os.trans h.os,k.tape.trans h.tape,k.output.trans h.output,Nat.le_trans h.size k.size,fun i hi hne=>(k.block i (Nat.lt_of_lt_of_le hi h.size) hne).trans (h.block i hi hne)⟩
theorem But.ext {g:Nat} {a b c:World} (h:But g a b) (k:Ext b c):But g a c :=
 h.trans ⟨k.os,k.tape,k.output,k.size,fun i hi _=>k.block i hi⟩
theorem But.setCell {g:Nat} {a b:World} (h:But g a b) (j:Nat) (v:Value):But g a (b.setCell ⟨g,j,none⟩ v) :=
 h.trans ⟨rfl,rfl,rfl,by simp [World.setCell],fun i hi hne=>Below.heap_setCell _ _ _ _ (fun e=>hne (by rw [e]))⟩
theorem But.below {g B:Nat} {a b:World} (h:But g a b) (hB:B≤g) (ha:B≤a.heap.size):Below B a b :=
 ⟨h.os,h.tape,h.output,h.size,fun i hi=>h.block i (by omega) (fun e=>by injection e;omega)⟩
theorem But.cell {g:Nat} {a b:World} (h:But g a b) {p:Addr} (hp:p.block<a.heap.size) (hne:p.block≠g):b.cell? p=a.cell? p:=World.cell?_of_block (h.block _ hp (fun e=>hne (by injection e)))
def Rd (w:World) (q:Nat) (pw:List Nat):Prop:=q<w.heap.size∧∀ j,j<pw.length→w.cell? ⟨q,j,none⟩=some (.int .u32 (lb pw j:Nat))
theorem Own.rd {w:World} {base q n c:Nat} {o:List Nat} (h:Own w base (.slice (some ⟨q,0,none⟩) n c) o):Rd w q o:=by
 obtain ⟨e,_,_⟩:=h.caps
 subst e
 exact ⟨h.block.2,fun j hj=>h.cell hj⟩
theorem Own.frozen' {w:World} {base g n c:Nat} {o:List Nat} (h:Own w base (.slice (some ⟨g,0,none⟩) n c) o) (j:Nat):w.frozen? ⟨g,j,none⟩=false:=by
 obtain ⟨e,_,_⟩:=h.caps
 subst e
 exact h.frozen j
theorem Own.ext {w w':World} {base g n c:Nat} {o:List Nat} (h:Own w base (.slice (some ⟨g,0,none⟩) n c) o) (hB:Ext w w'):Own w' base (.slice (some ⟨g,0,none⟩) n c) o :=
 h.below hB (fun g' hg=>by injection hg with hg;subst hg;exact h.block.2)
theorem Own.set' {w:World} {base g n c:Nat} {o:List Nat} (h:Own w base (.slice (some ⟨g,0,none⟩) n c) o) (j x:Nat):Own (w.setCell ⟨g,j,none⟩ (.int .u32 (x:Nat))) base (.slice (some ⟨g,0,none⟩) n c) (o.set j x):=by
 obtain ⟨e,_,_⟩:=h.caps
 subst e
 have:=h.qO j x
 rwa [List.length_set] at this
end Go.Proofs.YtgcieamfidoaoaaGreatDoor
/- Lengths in bits, of 64 bits. -/
namespace Go.Proofs.YtgcieamfidoaoaaGreatDoor
open Go.RowKit
theorem Vz (w:World) (x:Nat) (h:x<256) :
  Calls Tryz.prog 150 #[.int .u64 x] w fun e w'=>e = .returned (.int .i64 (bJ x:Nat))∧w=w':=by
 have Wl:decide ((65536:Int)≤(x:Nat))=false:=by rw [decide_eq_false_iff_not];omega
 have G7:decide ((256:Int)≤(x:Nat))=false:=by rw [decide_eq_false_iff_not];omega
 have h32:decide ((4294967296:Int)≤(x:Nat))=false:=by rw [decide_eq_false_iff_not];omega
 have HF:Hid (bJ x=bJ (x%256)):=by rw [Hid,Nat.mod_eq_of_lt h]
 have hI:=fun w=>lT (P:=Tryz.prog) 9 Tryz.underlying9 .u8 (x%256) (by omega) w
 have hB:=cZ (n:=x%256) (k:=8) (by omega)
 have hv:((x%256:Nat):Int)=(x:Int)%256:=by omega
 rw [hv] at hI
 clear hv
 generalize bJ (x%256)=b at *
 go_enter Tryz.func150,Tryz.ntmps150
 generalize hT:(ByteArray.mk _:ByteArray)=T
 have wV:T=wW:=by rw [← hT];exact nW
 rw [← wV] at hI
 clear hT wV h
 go_wp2
 go_ret
 exact ⟨by rw [HF.out];first | rfl | exact nE (by omega),rfl⟩
theorem VA (w:World) (x:Nat) (h:256≤x) (h2:x<65536) :
  Calls Tryz.prog 150 #[.int .u64 x] w fun e w'=>e = .returned (.int .i64 (bJ x:Nat))∧w=w':=by
 have Wl:decide ((65536:Int)≤(x:Nat))=false:=by rw [decide_eq_false_iff_not];omega
 have G7:decide ((256:Int)≤(x:Nat))=true:=by rw [decide_eq_true_iff];omega
 have h32:decide ((4294967296:Int)≤(x:Nat))=false:=by rw [decide_eq_false_iff_not];omega
 have HF:Hid (bJ x=8+bJ (x/256%256)):=by
  rw [Hid,Nat.mod_eq_of_lt (by omega)];exact lu x 8 (by simp only [Nat.reducePow];omega)
 have hI:=fun w=>lT (P:=Tryz.prog) 9 Tryz.underlying9 .u8 (x/256%256) (by omega) w
 have hB:=cZ (n:=x/256%256) (k:=8) (by omega)
 have hv:((x/256%256:Nat):Int)=(x:Int)/256%256:=by omega
 rw [hv] at hI
 clear hv
 generalize bJ (x/256%256)=b at *
 go_enter Tryz.func150,Tryz.ntmps150
 generalize hT:(ByteArray.mk _:ByteArray)=T
 have wV:T=wW:=by rw [← hT];exact nW
 rw [← wV] at hI
 clear hT wV h h2
 go_wp2
 go_ret
 exact ⟨by rw [HF.out];first | rfl | exact nE (by omega),rfl⟩
theorem VB (w:World) (x:Nat) (h:65536≤x) (h2:x<16777216) :
  Calls Tryz.prog 150 #[.int .u64 x] w fun e w'=>e = .returned (.int .i64 (bJ x:Nat))∧w=w':=by
 have Wl:decide ((65536:Int)≤(x:Nat))=true:=by rw [decide_eq_true_iff];omega
 have G7:decide ((256:Int)≤(x:Nat)/65536)=false:=by rw [decide_eq_false_iff_not];omega
 have h32:decide ((4294967296:Int)≤(x:Nat))=false:=by rw [decide_eq_false_iff_not];omega
 have HF:Hid (bJ x=16+bJ (x/65536%256)):=by
  rw [Hid,Nat.mod_eq_of_lt (by omega)];exact lu x 16 (by simp only [Nat.reducePow];omega)
 have hI:=fun w=>lT (P:=Tryz.prog) 9 Tryz.underlying9 .u8 (x/65536%256) (by omega) w
 have hB:=cZ (n:=x/65536%256) (k:=8) (by omega)
 have hv:((x/65536%256:Nat):Int)=(x:Int)/65536%256:=by omega
 rw [hv] at hI
 clear hv
 generalize bJ (x/65536%256)=b at *
 go_enter Tryz.func150,Tryz.ntmps150
 generalize hT:(ByteArray.mk _:ByteArray)=T
 have wV:T=wW:=by rw [← hT];exact nW
 rw [← wV] at hI
 clear hT wV h h2
 go_wp2
 go_ret
 exact ⟨by rw [HF.out];first | rfl | exact nE (by omega),rfl⟩
theorem VC (w:World) (x:Nat) (h:16777216≤x) (h2:x<4294967296) :
  Calls Tryz.prog 150 #[.int .u64 x] w fun e w'=>e = .returned (.int .i64 (bJ x:Nat))∧w=w':=by
 have Wl:decide ((65536:Int)≤(x:Nat))=true:=by rw [decide_eq_true_iff];omega
 have G7:decide ((256:Int)≤(x:Nat)/65536)=true:=by rw [decide_eq_true_iff];omega
 have h32:decide ((4294967296:Int)≤(x:Nat))=false:=by rw [decide_eq_false_iff_not];omega
 have HF:Hid (bJ x=24+bJ (x/65536/256%256)):=by
  rw [Hid,Nat.div_div_eq_div_mul,Nat.mod_eq_of_lt (by omega)];exact lu x 24 (by simp only [Nat.reducePow];omega)
 have hI:=fun w=>lT (P:=Tryz.prog) 9 Tryz.underlying9 .u8 (x/65536/256%256) (by omega) w
 have hB:=cZ (n:=x/65536/256%256) (k:=8) (by omega)
 have hv:((x/65536/256%256:Nat):Int)=(x:Int)/65536/256%256:=by omega
 rw [hv] at hI
 clear hv
 generalize bJ (x/65536/256%256)=b at *
 go_enter Tryz.func150,Tryz.ntmps150
 generalize hT:(ByteArray.mk _:ByteArray)=T
 have wV:T=wW:=by rw [← hT];exact nW
 rw [← wV] at hI
 clear hT wV h h2
 go_wp2
 go_ret
 exact ⟨by rw [HF.out];first | rfl | exact nE (by omega),rfl⟩
theorem Jg (w:World) (x:Nat) (h:x<4294967296) :
  Calls Tryz.prog 150 #[.int .u64 x] w fun e w'=>e = .returned (.int .i64 (bJ x:Nat))∧w=w':=by
 rcases Nat.lt_or_ge x 256 with h1 | h1
 · exact Vz w x h1
 · rcases Nat.lt_or_ge x 65536 with h2 | h2
   · exact VA w x h1 h2
   · rcases Nat.lt_or_ge x 16777216 with h3 | h3
     · exact VB w x h2 h3
     · exact VC w x h3 h
theorem NZ (w:World) (x:Nat) (h:x<4294967296) :
  Calls Tryz.prog 130 #[.int .u64 x] w fun e w'=>e = .returned (.int .i64 (bJ x:Nat))∧w=w':=by
 go_enter Tryz.func130,Tryz.ntmps130
 go_wp2_with (fail)
 refine (Jg _ x h).mono ?_
 rintro e w' ⟨rfl,rfl⟩
 go_wp2
 go_ret
 exact ⟨rfl,rfl⟩
end Go.Proofs.YtgcieamfidoaoaaGreatDoor
