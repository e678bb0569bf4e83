/- Base. -/
import Derived.Test.YtgcieamfidoaoaaGreatDoorGag
import Derived.Laws.OwnMore
import Derived.Laws.BitsAllLaws
import Derived.Laws.Bits64
import Derived.Deep.AppendLies
import Derived.Deep.Draws
import Derived.Lib.Hide
import Derived.OwnWalk
import Derived.Test.YtgcieamfidoaoaaGreatDoorProg
import Derived.ProofKit
import Derived.OpenShut
import Derived.JoinedCond
import Derived.RegionTactic
import Derived.LoopTactic
import Derived.BigQuiet
import Derived.Deep.QuietTactic
import Derived.Outline
set_option linter.all false
set_option maxHeartbeats 8000000
namespace Go.Proofs.YtgcieamfidoaoaaGreatDoor
open Go.Proofs.Tryz
open Go.RowKit
namespace Rf
open Go Go.RowKit Pl
set_option maxRecDepth 100000
mutual
def gsO:SV→List Nat
 | .v _=>[]
 | .p _ _=>[]
 | .c g _=>[g]
 | .a l=>Pk l
 | .t l=>Pk l
 | .f _ fs cap=>Pk fs++Pk cap
def Pk:List SV→List Nat
 | []=>[]
 | x::l=>gsO x++Pk l
end
def sD:Operand→List Nat
 | .tmp t=>[t]
 | _=>[]
def Uk:List Operand→List Nat
 | []=>[]
 | x::l=>sD x++Uk l
def rdO:Op→List Nat
 | .move x=>sD x
 | .assign x=>sD x
 | .pick c x y=>sD c++(sD x++sD y)
 | .extract x _=>sD x
 | .fieldAddr _ x _=>sD x
 | .box _ x=>sD x
 | .load _ x=>sD x
 | .store _ x y=>sD x++sD y
 | _=>[]
def Di (L:List Oper):Option (Nat × Bool)→List Nat
 | none=>[]
 | some (j,_)=>match nth L j with
  | none=>[]
  | some o=>match o.dst with
   | none=>[]
   | some d=>[d]
def aap (l:Fr):Op→List Nat
 | .load _ x=>match ev l x with
  | some (.p b _)=>[b]
  | _=>[]
 | .store _ x _=>match ev l x with
  | some (.p b _)=>[b]
  | _=>[]
 | _=>[]
def XG (T:TI) (L:List Oper) (ord:Option (List Nat)) (l0:Fr) (B0:Bx) (k:Nat) (tr:Tr):Option (It × Nat):=match nth L (oi ord tr.length) with
 | none=>none
 | some o=>match kX (vS l0 tr) (Di L o.guard++rdO o.op) with
  | lr=>match lJ L lr o.guard with
   | none=>none
   | some false=>match o.dst with
    | some d=>some (⟨some d,.v undef,Di L o.guard++rdO o.op,[],[],none,none,none⟩,k)
    | none=>none
   | some true=>match GX T lr (Ea (Xz B0 tr) (aap lr o.op)) o.op with
    | none=>none
    | some (.pure s)=>match o.dst with
     | some d=>some (⟨some d,s,Di L o.guard++rdO o.op,aap lr o.op,[],none,none,none⟩,k)
     | none=>none
    | some (.new t cs)=>match o.dst,uJ k cs with
     | some d,true=>some (⟨some d,.p k 0,Di L o.guard++rdO o.op,aap lr o.op,[],some (k,t,cs),some k,none⟩,Nat.succ k)
     | _,_=>none
    | some (.put b t cs)=>match o.dst with
     | none=>some (⟨none,.v undef,Di L o.guard++rdO o.op,aap lr o.op,[],some (b,t,cs),none,none⟩,k)
     | some _=>none
def aaq (T:TI) (L:List Oper) (ord:Option (List Nat)) (l0:Fr) (B0:Bx):Nat→Nat→Tr→Tr × Nat
 | 0,k,tr=>(tr,k)
 | f+1,k,tr=>match XG T L ord l0 B0 k tr with
  | some (it,k')=>aaq T L ord l0 B0 f k' (it::tr)
  | none=>(tr,k)
section
variable {P:Program} {Q:Exit→Act→World→Prop} {n:Nat} {ds:List Deferred} {w0:World} {cs:List Code} {l0:Fr} {B0:Bx} {Γ0:Gm} {L:List Oper} {ord:Option (List Nat)}
theorem XH {T:TI} (hT:BX P T) {k k':Nat} {tr:Tr} {it:It} (h:XG T L ord l0 B0 k tr=some (it,k')):KO P L w0 l0 B0 Γ0 (oi ord tr.length) tr it:=by
 unfold XG at h;split at h
 · cases h
 · next o ho =>
   dsimp only at h;split at h
   · cases h
   · next hg =>
     split at h
     · next d hd=>cases h;exact .skip o d _ ho hd hg
     · cases h
   · next hg =>
     split at h
     · cases h
     · next s hx =>
       split at h
       · next d hd=>cases h;exact .pure o d s _ _ [] ho hd hg fun α γ w hH=>KG hT hH hx
       · cases h
     · next t c hx =>
       split at h
       · next d hd hk=>cases h;exact .new o d _ t c _ _ [] ho hd hg hk fun α γ w hH=>KG hT hH hx
       · cases h
     · next b t c hx =>
       split at h
       · next hd=>cases h;exact .put o b t c _ _ [] (.v undef) ho hd hg fun α γ w hH=>KG hT hH hx
       · cases h
theorem Rb {T:TI} (hT:BX P T):∀ (f:Nat) {k:Nat} {tr:Tr},Jk P L w0 l0 B0 Γ0 ord tr→Jk P L w0 l0 B0 Γ0 ord (aaq T L ord l0 B0 f k tr).1
 | 0,_,_,h=>h
 | f+1,k,tr,h=>by
  unfold aaq;split
  · next it k' hx=>exact Rb hT f ⟨XH hT hx,h⟩
  · exact h
def DA (P:Program) (Q:Exit→Act→World→Prop) (n:Nat) (ds:List Deferred) (w0:World) (cs:List Code) (L:List Oper) (ord:Option (List Nat)) (l0:Fr) (B0:Bx) (Γ0:Gm) (tr:Tr):Prop :=
 Jk P L w0 l0 B0 Γ0 ord tr→∀ α γ w,Holds w0 B0 Γ0 α γ w→G P L (fun _=>True) (Ks P Q cs) n ds L.toArray.size 0 (iI α γ l0) w
theorem aQ {id:Nat} (ord:Option (List Nat)) (hm:P.follows .mixedOrders=true) (h:DA P Q n ds w0 cs L ord l0 B0 Γ0 []):HV P Q n ds w0 (.region id L.toArray true::cs) l0 B0 Γ0:=fun α γ w hH =>
 Ki (S:=fun _=>True) hm trivial fun _=>h trivial α γ w.drew (hH.ext (aS.drew w))
theorem az {T:TI} (hT:BX P T) (f k:Nat) {k':Nat} {tr tr':Tr} (e:aaq T L ord l0 B0 f k tr=(tr',k')) (h:DA P Q n ds w0 cs L ord l0 B0 Γ0 tr'):DA P Q n ds w0 cs L ord l0 B0 Γ0 tr:=fun ha=>h (by have:=Rb hT f (k:=k) ha;rwa [e] at this)
def abF:List Nat→List Nat→List Nat
 | [],acc=>acc
 | t::ts,acc=>abF ts (acc++[upto t acc acc.length])
def ajs (T:List Nat):=abF T []
def abG (n:Nat) (L:List Oper) (ord:Option (List Nat)) (l0:Fr) (B0:Bx) (Γ0:Gm) (full:Tr) (mX:List Nat):Bool :=
 Nat.beq full.length L.length&&(Gr n L&&(G9 ord L.length&&(XE L.length (tabs L.toArray)&&(Jj mX (yS (tabs L.toArray) ord L.length L.length) mX 0&&XD mX l0 B0 Γ0 full full))))
theorem aR {full:Tr} (hk:abG n L ord l0 B0 Γ0 full (ajs (yS (tabs L.toArray) ord L.length L.length))=true) (hV:HV P Q n ds w0 cs (vS l0 full) (Xz B0 full) (Eg Γ0 full)):DA P Q n ds w0 cs L ord l0 B0 Γ0 full:=fun ha α γ w hH=>by
 unfold abG at hk;rw [Bool.and_eq_true,Bool.and_eq_true,Bool.and_eq_true,Bool.and_eq_true,Bool.and_eq_true] at hk;obtain ⟨h1,h2,h5,h6,h3,h4⟩:=hk
 have hz:∀ {X:Type} (base:List (Nat × X)) (xs:List (Option (Nat × X))),sel 0 base xs=base:=by
  intro X base xs;induction xs with
  | nil=>rfl
  | cons x xs ih =>
   cases x with
   | none=>exact ih
   | some e =>unfold sel;rw [show tb 0 xs.length=false by rw [kV,Nat.zero_testBit]];exact ih
 have aao:∀ N,rem 0 N=N:=by
  intro N;induction N with
  | zero=>rfl
  | succ N ih=>unfold rem;rw [ih,Nat.zero_testBit,if_neg (by simp)]
 have h:=Tn (Nat.eq_of_beq_eq_true h1) h2 h5 h6 h3 h4 ha hV L.length 0 0 (aao _) (fun t _=>by rw [Nat.zero_testBit,Nat.zero_testBit]) (fun j t _ hb=>by rw [Nat.zero_testBit] at hb;cases hb) α γ w;have e1:Tk 0 B0 full=B0:=hz _ _;have e2:Q0 0 Γ0 full=Γ0:=hz _ _;have e3:XA 0 l0 full=l0:=hz _ _;rw [e1,e2,e3] at h;have:=h hH;simpa using this
theorem adA {tr:Tr} {d:Nat} {o:Oper} {f:FuncId} {xs:List Operand} {ats:Array TypeId} {ss:List SV} {rd gs:List Nat} {lr:Fr} {Γr:Gm} (g:Nat) (S:RS) (res:SV) (ho:nth L (oi ord tr.length)=some o) (hop:o.op = .call { callee:=.value (.func f),args:=xs.toArray,argTypes:=ats }) (hd:o.dst=some d) (hrd:Di L o.guard++Uk xs=rd) (hlr:kX (vS l0 tr) rd=lr) (hg:lJ L lr o.guard=some true) (hx:evs lr xs=some ss) (hgs:Pk ss=gs) (hΓ:qb (Eg Γ0 tr) gs=Γr) (hf:∀ (u:Array Value) X,(callFunc f u).run P X = .ok (.enter f u) X) (DY:∀ α γ w,Holds w0 [] Γr α γ w→Calls P f (dU α γ ss).toArray w (fun e w'=>∃ F,(∀ k,bU (F k)=true)∧e = .returned (den α (upd γ g F) res)∧S.R w' F∧aS w w')) (h:DA P Q n ds w0 cs L ord l0 B0 Γ0 (⟨some d,res,rd,[],gs,none,none,some (g,S.S)⟩::tr)):DA P Q n ds w0 cs L ord l0 B0 Γ0 tr:=fun ha=>h (by subst hΓ hlr;exact ⟨.call o d g S.S res rd gs f (.func f) [] [] xs ats ss ho hop hd hg (.inr ⟨rfl,rfl,rfl⟩) hx hf (fun α γ w hH=>Calls.mono (yh (DY α γ w hH)) fun e w' ⟨F,h1,h2,h3,h4⟩=>⟨F,h1,h2,RS.new h3 h4,h4⟩),ha⟩)
theorem EJ {tr:Tr} {d:Nat} {o:Oper} {rd:List Nat} {lr:Fr} {Γr:Gm} (s:SV) (P9 gs:List Nat) (ho:nth L (oi ord tr.length)=some o) (hd:o.dst=some d) (hrd:Di L o.guard++P9=rd) (hlr:kX (vS l0 tr) rd=lr) (hg:lJ L lr o.guard=some true) (hΓ:qb (Eg Γ0 tr) gs=Γr) (hr:∀ α γ w,Holds w0 [] Γr α γ w→∀ ρ,Cons ρ (iI α γ lr)→(execOp ρ o).run P w = .ok (.value (den α γ s)) w) (h:DA P Q n ds w0 cs L ord l0 B0 Γ0 (⟨some d,s,rd,[],gs,none,none,none⟩::tr)):DA P Q n ds w0 cs L ord l0 B0 Γ0 tr:=fun ha=>h (by subst hΓ hlr;exact ⟨.pure o d s rd [] gs ho hd hg hr,ha⟩)
theorem Ei {tr:Tr} {d:Nat} {o:Oper} {rd gs:List Nat} {lr:Fr} {Γr:Gm} {op:BinOp} {tx ty:TypeId} {x y:Operand} {sx sy:SV} (s:SV) (ho:nth L (oi ord tr.length)=some o) (hop:o.op = .binOp op tx x y ty) (hd:o.dst=some d) (hrd:Di L o.guard++(sD x++sD y)=rd) (hlr:kX (vS l0 tr) rd=lr) (hg:lJ L lr o.guard=some true) (hx:ev lr x=some sx) (hy:ev lr y=some sy) (hgs:gsO sx++gsO sy=gs) (hΓ:qb (Eg Γ0 tr) gs=Γr) (hr:∀ α γ w,Holds w0 [] Γr α γ w→Bn P op tx x y (den α γ sx) (den α γ sy) w = .ok (den α γ s) w) (h:DA P Q n ds w0 cs L ord l0 B0 Γ0 (⟨some d,s,rd,[],gs,none,none,none⟩::tr)):DA P Q n ds w0 cs L ord l0 B0 Γ0 tr:=fun ha=>h (by subst hΓ hlr;refine ⟨.pure o d s rd [] gs ho hd hg fun α γ w hH ρ hρ=>?_,ha⟩;obtain ⟨dst,op',ty',pos,aft,gu⟩:=o;cases hop;refine fI _ w ?_;rw [hρ.fO (dJ hx),hρ.fO (dJ hy)];exact hr α γ w hH)
theorem vX.look {l l':Fr} (h:vX l l') (α:Env) (γ:l7):∀ t v,Go.Proofs.YtgcieamfidoaoaaGreatDoor.Pl.look (iI α γ l) t=some v→Go.Proofs.YtgcieamfidoaoaaGreatDoor.Pl.look (iI α γ l') t=some v:=by
 intro t v hv;rw [iC] at hv ⊢;cases hl:lk l t with
 | none=>rw [hl] at hv;cases hv
 | some s=>rw [hl] at hv;rw [h t s hl];exact hv
end
end Rf
def lb (xs:List Nat) (j:Nat):Nat:=xs[j]?.getD 0
theorem gD {xs:List Nat} {p:Nat} (hp:0<p) (h:∀ x∈xs,x<p) (j:Nat):lb xs j<p:=by
 unfold lb;by_cases hj:j<xs.length
 · rw [List.getElem?_eq_getElem hj];exact h _ (List.getElem_mem hj)
 · rw [List.getElem?_eq_none (by omega)];exact hp
theorem fD {xs:List Nat} (h:∀ x∈xs,x<4294967296) (j:Nat):lb xs j<4294967296:=gD (by decide) h j
theorem ww {xs ys:List Nat} (hl:xs.length=ys.length) (h:∀ j,j<xs.length→lb xs j=lb ys j):xs=ys:=by apply List.ext_getElem hl;intro i h1 h2;have:=h i h1;unfold lb at this;rwa [List.getElem?_eq_getElem h1,List.getElem?_eq_getElem h2] at this
theorem kC {xs:List Nat} {k j:Nat} (h:j<k):lb (xs.take k) j=lb xs j:=by unfold lb;rw [List.getElem?_take,if_pos h]
theorem Er (xs:List Nat) (q i:Nat):lb (xs.drop q) i=lb xs (q+i):=by unfold lb;rw [List.getElem?_drop]
theorem pG {o:List Nat} {j:Nat} (x:Nat) (h:j<o.length):lb (o.set j x) j=x:=by simp [lb,h]
theorem fH {o:List Nat} {i j:Nat} (x:Nat) (h:i≠j):lb (o.set i x) j=lb o j:=by simp [lb,h]
theorem EC (o:List Nat) (i j x:Nat) (h:i<o.length):lb (o.set i x) j=if i=j then x else lb o j:=by
 by_cases e:i=j
 · subst e;rw [if_pos rfl,pG x h]
 · rw [if_neg e,fH x e]
theorem jL (n j:Nat):lb (List.replicate n 0) j=0:=by unfold lb;by_cases h:j<n<;>simp [h]
theorem qV {o:List Nat} {j:Nat} (h:o.length≤j):lb o j=0:=by simp [lb,List.getElem?_eq_none h]
theorem tN (o u:List Nat) (j:Nat):lb (o++u) j=if j<o.length then lb o j else lb u (j-o.length):=by unfold lb;rw [List.getElem?_append];split<;>rfl
theorem ko {o:List Nat} {j x b:Nat} (h:∀ y∈o,y<b) (hx:x<b):∀ y∈o.set j x,y<b:=by
 intro y hy;rcases List.mem_or_eq_of_mem_set hy with h1 | h1
 · exact h y h1
 · omega
theorem vE {o:List Nat} {x b:Nat} (h:∀ y∈o,y<b) (hx:x<b):∀ y∈o++[x],y<b:=by
 intro y hy;rcases List.mem_append.1 hy with h1 | h1
 · exact h y h1
 · obtain rfl:=List.mem_singleton.1 h1;exact hx
theorem Sy {o:List Nat} {p:Nat} (h:∀ j,j<o.length→lb o j<p):∀ x∈o,x<p:=fun x hx=>by obtain ⟨j,hj,rfl⟩:=List.mem_iff_getElem.1 hx;have:=h j hj;unfold lb at this;rwa [List.getElem?_eq_getElem hj] at this
theorem aW (a:Addr) (n:Nat):(a.add n).block=a.block:=by unfold Addr.add;split<;>rfl
theorem addr_add_add (a:Addr) (i j:Nat):(a.add i).add j=a.add (i+j):=by unfold Addr.add;by_cases hi:i=0<;>by_cases hj:j=0<;>simp [hi,hj,Nat.add_assoc]
theorem lF (a:Addr):a.add 0=a:=by simp [Addr.add]
theorem Im (g j:Nat):(⟨g,0,none⟩:Addr).add j=⟨g,j,none⟩:=by unfold Addr.add;split<;>simp_all
def U (w:World) (v:Value) (xs:List Nat):Prop :=
 ∃ (A:Option Addr) (c:Nat),v = .slice A xs.length c∧(xs.length≤c∧xs.length≤9223372036854775807)∧(∀ x∈xs,x<4294967296) ∧
  (0<xs.length→∃ ad,A=some ad∧ad.block<w.heap.size∧∀ j,j<xs.length→w.cell? (ad.add j)=some (.int .u32 (lb xs j:Nat)))
theorem U.keep {w w':World} {v:Value} {xs:List Nat} (h:U w v xs) (hs:w.heap.size≤w'.heap.size) (hk:∀ p:Addr,p.block<w.heap.size→w'.cell? p=w.cell? p):U w' v xs:=by obtain ⟨A,c,rfl,hc,hx,hr⟩:=h;refine ⟨A,c,rfl,hc,hx,fun h0=>?_⟩;obtain ⟨ad,hA,hb,hcell⟩:=hr h0;exact ⟨ad,hA,by omega,fun j hj=>(hk _ (by rw [aW];exact hb)).trans (hcell j hj)⟩
theorem U.below {w w':World} {v:Value} {xs:List Nat} (h:U w v xs) (hb:Below w.heap.size w w'):U w' v xs:=h.keep hb.size fun _ hp=>hb.cell hp
theorem U.lim {w:World} {v:Value} {xs:List Nat} (h:U w v xs):∀ x∈xs,x<4294967296:=by obtain ⟨A,c,rfl,hc,hx,hr⟩:=h;exact hx
theorem U.zZ (w:World) (A:Option Addr) (c:Nat):U w (.slice A 0 c) []:=⟨A,c,rfl,⟨Nat.zero_le _,Nat.zero_le _⟩,by simp,fun h=>absurd h (by simp)⟩
theorem U.take {w:World} {A:Option Addr} {n c:Nat} {xs:List Nat} (h:U w (.slice A n c) xs) {k c':Nat} (hk:k≤n) (hc':k≤c'):U w (.slice A k c') (xs.take k):=by
 obtain ⟨A,c,hv,hc,hx,hr⟩:=h;injection hv with h1 h2 h3;subst h1 h2 h3;have hlen:(xs.take k).length=k:=by simp;omega
 refine ⟨_,c',by rw [hlen],by omega,fun x hx'=>hx x (List.mem_of_mem_take hx'),fun h0=>?_⟩;obtain ⟨ad,hA,hb,hcell⟩:=hr (by omega);refine ⟨ad,hA,hb,fun j hj=>?_⟩;rw [hcell j (by omega),kC (by omega)]
def tL (o:List Nat):List Value:=o.map fun x=>Value.int .u32 (x:Nat)
theorem lS (o:List Nat):(tL o).length=o.length:=by simp [tL]
theorem Es (o:List Nat) {j:Nat} (h:j<o.length):(tL o)[j]?=some (.int .u32 (lb o j:Nat)):=by unfold tL lb;simp [h]
theorem oM (a b:List Nat):tL (a++b)=tL a++tL b:=by simp [tL]
theorem ZN (a:List Nat) (i x:Nat):tL (a.set i x)=(tL a).set i (.int .u32 (x:Nat)):=by simp [tL,List.map_set]
theorem SA (k:Nat):tL (List.replicate k 0)=List.replicate k (.int .u32 0):=by simp [tL]
def Own (w:World) (base:Nat) (v:Value) (o:List Nat):Prop:=w.ownsRow base 57 1 v o.length (tL o)
theorem Own.Ht {w:World} {base:Nat} {v:Value} {o:List Nat} (h:Own w base v o) (hx:∀ x∈o,x<4294967296) (hm:o.length≤9223372036854775807):U w v o:=by
 have h0:w.ownsRow base 57 1 v o.length (tL o):=h;rcases h0.2 with ⟨rfl,h1⟩ | ⟨g,cap,cur,rfl,hg,hh,h1,h2,h3,h4⟩
 · refine ⟨none,0,by rw [h1],by omega,hx,fun hp=>absurd hp (by omega)⟩
 · refine ⟨_,cap,rfl,⟨h1,hm⟩,hx,fun hp=>⟨_,rfl,(h0.lt g rfl).2,fun j hj=>?_⟩⟩;exact h0.cells (g:=g) rfl j _ (Es o hj)
theorem Own.cell {w:World} {base g c:Nat} {o:List Nat} (h:Own w base (.slice (some ⟨g,0,none⟩) o.length c) o) {j:Nat} (hj:j<o.length):w.cell? ⟨g,j,none⟩=some (.int .u32 (lb o j:Nat)):=by rw [World.ownsRow.cellAt h j (by omega)];exact Es o hj
theorem Own.frozen {w:World} {base g c:Nat} {o:List Nat} (h:Own w base (.slice (some ⟨g,0,none⟩) o.length c) o) (j:Nat):w.frozen? ⟨g,j,none⟩=false:=World.ownsRow.frozenAt h j
theorem Own.qU {w:World} {base g c:Nat} {o:List Nat} (h:Own w base (.slice (some ⟨g,0,none⟩) o.length c) o) (j x:Nat):Own (w.setCell ⟨g,j,none⟩ (.int .u32 (x:Nat))) base (.slice (some ⟨g,0,none⟩) (o.set j x).length c) (o.set j x):=by have:=(World.ownsRow.stored h j (.int .u32 (x:Nat))).1;unfold Own;rw [ZN,List.length_set];exact this
theorem Own.drew {w:World} {base:Nat} {v:Value} {o:List Nat} (h:Own w base v o):Own w.drew base v o:=h
theorem Own.alloc {w:World} {base:Nat} {v:Value} {o:List Nat} (h:Own w base v o) (x:Obj):Own (w.alloc x) base v o:=World.ownsRow.alloc h x
theorem Own.block {w:World} {base g n c:Nat} {o:List Nat} (h:Own w base (.slice (some ⟨g,0,none⟩) n c) o):base≤g∧g<w.heap.size:=by have h0:w.ownsRow base 57 1 (.slice (some ⟨g,0,none⟩) n c) o.length (tL o):=h;exact h0.lt g rfl
theorem Own.caps {w:World} {base g n c:Nat} {o:List Nat} (h:Own w base (.slice (some ⟨g,0,none⟩) n c) o):n=o.length∧n≤c∧c≤maxLen:=by
 rcases h.2 with ⟨h1,_⟩ | ⟨g',cap,cur,h1,hg,hh,h2,h3,h4,h5⟩
 · cases h1
 · injection h1 with e1 e2 e3;subst e2 e3;exact ⟨rfl,h2,h3⟩
theorem Own.below {w w':World} {base B:Nat} {v:Value} {o:List Nat} (h:Own w base v o) (hB:Below B w w') (hv:∀ g,v.ownBlock=some g→g<B):Own w' base v o:=by
 refine ⟨h.1,?_⟩;rcases h.2 with hn | ⟨g,cap,cur,rfl,hb,hgg,rest⟩
 · exact .inl hn
 · refine .inr ⟨g,cap,cur,rfl,hb,?_,rest⟩;rw [hB.block g (hv g rfl)];exact hgg
theorem Own.zeros {w:World} {base g:Nat} {n:Nat} (h:w.ownsRow base 57 1 (.slice (some ⟨g,0,none⟩) n n) n (madeCells (Value.int .u32 0).cells (n*1)).toList) :Own w base (.slice (some ⟨g,0,none⟩) (List.replicate n 0).length n) (List.replicate n 0):=by
 have e:(madeCells (Value.int .u32 0).cells (n*1)).toList=tL (List.replicate n 0):=by rw [SA,Nat.mul_one];exact toList_madeCells_one _ _
 rw [e] at h;unfold Own;rw [List.length_replicate];exact h
def okV (r:Result Value):Value:=match r with | .ok v _=>v | _=>undef
def okW (w:World) (r:Result Value):World:=match r with | .ok _ w'=>w' | _=>w
def abe (P:Program) (t ty:TypeId) (s x:Value) (w:World):Prop:=∃ v w',(Builtin.append_ #[t,t] ty #[s,x]).run P w = .ok v w'
def AV (P:Program) (t ty:TypeId) (s x:Value) (w:World):Value:=okV ((Builtin.append_ #[t,t] ty #[s,x]).run P w)
def AW (P:Program) (t ty:TypeId) (s x:Value) (w:World):World:=okW w ((Builtin.append_ #[t,t] ty #[s,x]).run P w)
def ac4 (ts:Array TypeId) (ty:TypeId) (args:Array Value):Sem Value:=Builtin.append_ ts ty args
theorem pI (ts:Array TypeId) (ty:TypeId) (args:Array Value):Builtin.append_ ts ty args=ac4 ts ty args:=rfl
theorem je {P:Program} {t ty:TypeId} {s x:Value} {w:World} (h:abe P t ty s x w) :(ac4 #[t,t] ty #[s,x]).run P w = .ok (AV P t ty s x w) (AW P t ty s x w):=by obtain ⟨v,w',h⟩:=h;unfold AV AW ac4;rw [h];rfl
theorem jW {P:Program} {t ty:TypeId} {s x:Value} {w:World} {v:Value} {w':World} (h:(Builtin.append_ #[t,t] ty #[s,x]).run P w = .ok v w') :abe P t ty s x w∧AV P t ty s x w=v∧AW P t ty s x w=w':=by
 refine ⟨⟨v,w',h⟩,?_,?_⟩
 · unfold AV;rw [h];rfl
 · unfold AW;rw [h];rfl
theorem sS:(prog.info? 57).map (fun i=>(i.zero,i.size,i.bytes))=some (some (.int .u32 0),1,4):=by kernel_rfl
theorem D7 {P:Program} (w:World) (base:Nat) (t ty e:TypeId) (i:TypeInfo) (size:Nat) (ht:P.underlying t=some (.slice e)) (hi:P.info? e=some i) (v:Value) (n c:Nat) (xs:List Value) (hown:w.ownsRow base e size v n xs) :(Builtin.append_ #[t,t] ty #[v,.slice none 0 c]).run P w = .ok v w:=by
 rcases hown.2 with ⟨rfl,rfl⟩ | ⟨g,cap,cur,rfl,_,_,hnc,_⟩
 · simp [Builtin.append_,run_underlying ht,sizeOf,typeInfo,hi,Builtin.lenOf,Builtin.firstCells]
 · simp [Builtin.append_,run_underlying ht,sizeOf,typeInfo,hi,Builtin.lenOf,Builtin.firstCells,hnc,storeCells]
theorem uR (w:World) (base:Nat) (v:Value) (o:List Nat) (hown:Own w base v o) (x:Value) (ys:List Nat) (hx:U w x ys) (hlen:o.length+ys.length≤35184372088832) (hbase:base≤w.heap.size) :∃ v' w',(Builtin.append_ #[24,24] 24 #[v,x]).run prog w = .ok v' w'∧Own w' base v' (o++ys)∧w.grownBy w' v.ownBlock:=by
 obtain ⟨i0,hi,hz0,hz1,hz2⟩:=info_parts sS;obtain ⟨A,c,rfl,⟨h1,h2⟩,hlt,hr⟩:=hx;cases A with
 | none =>
  have h0:ys.length=0:=by
   rcases Nat.eq_zero_or_pos ys.length with h0 | h0
   · exact h0
   · obtain ⟨ad,h,_⟩:=hr h0;cases h
  obtain rfl:=List.eq_nil_of_length_eq_zero h0;refine ⟨v,w,D7 w base 24 24 57 i0 1 underlying24 hi v _ c _ hown,by rw [List.append_nil];exact hown,World.grownBy.refl w _⟩
 | some ad =>
  have hcells:∀ j u,(tL ys)[j]?=some u→w.cell? (ad.add j)=some u:=fun j u hj=>by
   have hjl:j<ys.length:=by
    rcases Nat.lt_or_ge j ys.length with h | h
    · exact h
    · rw [List.getElem?_eq_none (by rw [lS];exact h)] at hj;cases hj
   obtain ⟨ahc,e',_,hcell⟩:=hr (by omega);replace e':=Option.some.inj e';subst e';rw [hcell j hjl,← Es ys hjl,hj]
  obtain ⟨v',w',hrun,hown',hg,_⟩:=run_append_own (P:=prog) w base 24 24 57 i0 (.int .u32 0) 1 4 underlying24 hi hz0 hz1 hz2 rfl (by decide) v o.length (tL o) hown ad ys.length c (tL ys) (by rw [lS,Nat.mul_one]) hcells
   (by intro u hu;obtain ⟨z,_,rfl⟩:=List.mem_map.1 hu;rfl) (by unfold maxLen;omega) (by omega) hbase
  exact ⟨v',w',hrun,by unfold Own;rw [oM,List.length_append];exact hown',hg⟩
def Ext (a b:World):Prop:=Below a.heap.size a b
theorem Ext.refl (w:World):Ext w w:=Below.refl _ _
theorem Ext.alloc {a b:World} (h:Ext a b) (o:Obj):Ext a (b.alloc o):=Below.alloc h h.size o
theorem Ext.below {a b c:World} (h:Ext a b) (k:Ext b c):Ext a c:=Below.trans h (Below.mono k h.size)
theorem Ext.drew {a b:World} (h:Ext a b):Ext a b.drew:=Below.drew h
theorem U.alloc {w:World} {v:Value} {xs:List Nat} (h:U w v xs) (o:Obj):U (w.alloc o) v xs:=U.below h ((Ext.refl w).alloc o)
theorem kI (w:World) (n:Nat):Ext w (w.drewN n):=⟨rfl,rfl,rfl,Nat.le_refl _,fun _ _=>rfl⟩
theorem Lj (w:World) (xs:List Nat) (hx:∀ x∈xs,x<4294967296) (hm:xs.length≤1000000):U (w.alloc (.cells (tL xs).toArray 57)) (.slice (some ⟨w.heap.size,0,none⟩) xs.length xs.length) xs:=by refine Own.Ht (base:=w.heap.size) ?_ hx (by omega);have:=World.ownsRow_lit (base:=w.heap.size) (e := 57) (size:=1) w (tL xs).toArray xs.length (Nat.le_refl _) (by unfold maxLen;omega) (by simp [lS]);simpa [Own] using this
theorem pz {k:IntKind} {a b:Int} (h:a=b):Ending.returned (.int k a) = .returned (.int k b):=by rw [h]
def dI (n:Nat):Nat:=if n=0 then 0 else n.log2+1
theorem jV (n:Nat):n<2^dI n:=by
 unfold dI;split
 · subst_vars;decide
 · exact Nat.lt_log2_self
theorem wD {n:Nat} (h:n≠0):2^(dI n-1)≤n:=by unfold dI;rw [if_neg h,Nat.add_sub_cancel];exact Nat.log2_self_le h
theorem Xf {n:Nat} (h:n≠0):0<dI n:=by unfold dI;rw [if_neg h];omega
theorem eu {n k:Nat} (h:n<2^k):dI n≤k:=by
 by_cases h0:n=0
 · subst h0;exact Nat.zero_le _
 · have h1:=Nat.lt_of_le_of_lt (wD h0) h;have:=(Nat.pow_lt_pow_iff_right (by decide:1<2)).1 h1;omega
theorem oP {n k:Nat} (h:2^k≤n):k<dI n:=by have h1:=Nat.lt_of_le_of_lt h (jV n);exact (Nat.pow_lt_pow_iff_right (by decide:1<2)).1 h1
theorem ZY {n k:Nat} (h1:2^k≤n) (h2:n<2^(k+1)):dI n=k+1:=by have:=oP h1;have:=eu h2;omega
theorem mV (n k:Nat) (h:n/2^k≠0):dI n=k+dI (n/2^k):=by
 have hp:=Xf h;have h1:=wD h;have h2:=jV (n/2^k);have hk:0<2^k:=Nat.two_pow_pos k
 have g1:2^(k+dI (n/2^k)-1)≤n:=by
  have:k+dI (n/2^k)-1=(dI (n/2^k)-1)+k:=by omega
  rw [this,Nat.pow_add];exact Nat.le_trans (Nat.mul_le_mul_right _ h1) (Nat.div_mul_le_self n (2^k))
 have g2:n<2^(k+dI (n/2^k)):=by rw [Nat.pow_add];exact Nat.lt_mul_of_div_lt h2 hk |> fun h=>by rwa [Nat.mul_comm] at h
 have a:=eu g2;have b:=oP g1;omega
def zM:ByteArray:=⟨((List.range 256).map fun n=>UInt8.ofNat (dI n)).toArray⟩
theorem Jc:zM.size=256:=by decide +kernel
theorem Xg:∀ p:Fin 256,(zM[p.val]'(by rw [Jc];exact p.isLt)).toNat=dI p.val:=by decide +kernel
theorem qz:(⟨(([0,1,2,2,3,3,3,3,4,4,4,4,4,4,4,4,5,5,5,5,5,5,5,5,5,5,5,5,5,5,5,5,6,6,6,6,6,6,6,6,6,6,6,6,6,6,6,6,6,6,6,6,6,6,6,6,6,6,6,6,6,6,6,6].append [7,7,7,7,7,7,7,7,7,7,7,7,7,7,7,7,7,7,7,7,7,7,7,7,7,7,7,7,7,7,7,7,7,7,7,7,7,7,7,7,7,7,7,7,7,7,7,7,7,7,7,7,7,7,7,7,7,7,7,7,7,7,7,7]).append ([8,8,8,8,8,8,8,8,8,8,8,8,8,8,8,8,8,8,8,8,8,8,8,8,8,8,8,8,8,8,8,8,8,8,8,8,8,8,8,8,8,8,8,8,8,8,8,8,8,8,8,8,8,8,8,8,8,8,8,8,8,8,8,8].append [8,8,8,8,8,8,8,8,8,8,8,8,8,8,8,8,8,8,8,8,8,8,8,8,8,8,8,8,8,8,8,8,8,8,8,8,8,8,8,8,8,8,8,8,8,8,8,8,8,8,8,8,8,8,8,8,8,8,8,8,8,8,8,8])).toArray⟩:ByteArray)=zM:=by decide +kernel
theorem nM {P:Program} (t:TypeId) (ht:P.underlying t=some .string) (k:IntKind) (i:Nat) (hi:i<256) (w:World) :(Instr.index t (.string zM) (.int k (i:Int))).run P w = .ok (.int .u8 (dI i:Nat)) w:=by
 rw [run_index_string w t zM k _ ht,dif_pos ⟨by omega,by rw [Jc];omega⟩];have e:((i:Int)).toNat=i:=by omega
 simp only [e];rw [Xg ⟨i,hi⟩]
theorem ZZ (w:World) (x:Nat) (h:x<256) :Calls prog 142 #[.int .u32 x] w fun e w'=>e = .returned (.int .i64 (dI x:Nat))∧w=w':=by
 have h65:decide ((65536:Int)≤(x:Nat))=false:=by rw [decide_eq_false_iff_not];omega
 have K8:decide ((256:Int)≤(x:Nat))=false:=by rw [decide_eq_false_iff_not];omega
 have HF:Hid (dI x=dI (x%256)):=by rw [Hid,Nat.mod_eq_of_lt h]
 have hI:=fun w=>nM (P:=prog) 9 underlying9 .u8 (x%256) (by omega) w;have hB:=eu (n:=x%256) (k:=8) (by omega);have hv:((x%256:Nat):Int)=(x:Int)%256:=by omega
 rw [hv] at hI;clear hv;generalize dI (x%256)=b at *;go_enter func142,ntmps142;generalize hT:(ByteArray.mk _:ByteArray)=T;have zL:T=zM:=by rw [← hT];exact qz
 rw [← zL] at hI;clear hT zL h;go_wp2;go_ret;exact ⟨by rw [HF.out];first | rfl | exact pz (by omega),rfl⟩
theorem Z0 (w:World) (x:Nat) (h:256≤x) (h2:x<65536) :Calls prog 142 #[.int .u32 x] w fun e w'=>e = .returned (.int .i64 (dI x:Nat))∧w=w':=by
 have h65:decide ((65536:Int)≤(x:Nat))=false:=by rw [decide_eq_false_iff_not];omega
 have K8:decide ((256:Int)≤(x:Nat))=true:=by rw [decide_eq_true_iff];omega
 have HF:Hid (dI x=8+dI (x/256%256)):=by rw [Hid,Nat.mod_eq_of_lt (by omega)];exact mV x 8 (by simp only [Nat.reducePow];omega)
 have hI:=fun w=>nM (P:=prog) 9 underlying9 .u8 (x/256%256) (by omega) w;have hB:=eu (n:=x/256%256) (k:=8) (by omega);have hv:((x/256%256:Nat):Int)=(x:Int)/256%256:=by omega
 rw [hv] at hI;clear hv;generalize dI (x/256%256)=b at *;go_enter func142,ntmps142;generalize hT:(ByteArray.mk _:ByteArray)=T;have zL:T=zM:=by rw [← hT];exact qz
 rw [← zL] at hI;clear hT zL h h2;go_wp2;go_ret;exact ⟨by rw [HF.out];first | rfl | exact pz (by omega),rfl⟩
theorem Z4 (w:World) (x:Nat) (h:65536≤x) (h2:x<16777216) :Calls prog 142 #[.int .u32 x] w fun e w'=>e = .returned (.int .i64 (dI x:Nat))∧w=w':=by
 have h65:decide ((65536:Int)≤(x:Nat))=true:=by rw [decide_eq_true_iff];omega
 have K8:decide ((256:Int)≤(x:Nat)/65536)=false:=by rw [decide_eq_false_iff_not];omega
 have HF:Hid (dI x=16+dI (x/65536%256)):=by rw [Hid,Nat.mod_eq_of_lt (by omega)];exact mV x 16 (by simp only [Nat.reducePow];omega)
 have hI:=fun w=>nM (P:=prog) 9 underlying9 .u8 (x/65536%256) (by omega) w;have hB:=eu (n:=x/65536%256) (k:=8) (by omega);have hv:((x/65536%256:Nat):Int)=(x:Int)/65536%256:=by omega
 rw [hv] at hI;clear hv;generalize dI (x/65536%256)=b at *;go_enter func142,ntmps142;generalize hT:(ByteArray.mk _:ByteArray)=T;have zL:T=zM:=by rw [← hT];exact qz
 rw [← zL] at hI;clear hT zL h h2;go_wp2;go_ret;exact ⟨by rw [HF.out];first | rfl | exact pz (by omega),rfl⟩
theorem Z5 (w:World) (x:Nat) (h:16777216≤x) (h2:x<4294967296) :Calls prog 142 #[.int .u32 x] w fun e w'=>e = .returned (.int .i64 (dI x:Nat))∧w=w':=by
 have h65:decide ((65536:Int)≤(x:Nat))=true:=by rw [decide_eq_true_iff];omega
 have K8:decide ((256:Int)≤(x:Nat)/65536)=true:=by rw [decide_eq_true_iff];omega
 have HF:Hid (dI x=24+dI (x/65536/256%256)):=by rw [Hid,Nat.div_div_eq_div_mul,Nat.mod_eq_of_lt (by omega)];exact mV x 24 (by simp only [Nat.reducePow];omega)
 have hI:=fun w=>nM (P:=prog) 9 underlying9 .u8 (x/65536/256%256) (by omega) w;have hB:=eu (n:=x/65536/256%256) (k:=8) (by omega);have hv:((x/65536/256%256:Nat):Int)=(x:Int)/65536/256%256:=by omega
 rw [hv] at hI;clear hv;generalize dI (x/65536/256%256)=b at *;go_enter func142,ntmps142;generalize hT:(ByteArray.mk _:ByteArray)=T;have zL:T=zM:=by rw [← hT];exact qz
 rw [← zL] at hI;clear hT zL h h2;go_wp2;go_ret;exact ⟨by rw [HF.out];first | rfl | exact pz (by omega),rfl⟩
theorem DF (w:World) (x:Nat) (h:x<4294967296) :Calls prog 142 #[.int .u32 x] w fun e w'=>e = .returned (.int .i64 (dI x:Nat))∧w=w':=by
 rcases Nat.lt_or_ge x 256 with h1 | h1
 · exact ZZ w x h1
 · rcases Nat.lt_or_ge x 65536 with h2 | h2
   · exact Z0 w x h1 h2
   · rcases Nat.lt_or_ge x 16777216 with h3 | h3
     · exact Z4 w x h2 h3
     · exact Z5 w x h3 h
def But (g:Nat) (a b:World):Prop:=a.grownBy b (some g)
theorem But.refl (g:Nat) (w:World):But g w w:=World.grownBy.refl w _
theorem But.trans {g:Nat} {a b c:World} (h:But g a b) (k:But g b c):But g a c :=
 ⟨k.os.trans h.os,k.tape.trans h.tape,k.output.trans h.output,Nat.le_trans h.size k.size,fun i hi hne=>(k.block i (Nat.lt_of_lt_of_le hi h.size) hne).trans (h.block i hi hne)⟩
theorem But.ext {g:Nat} {a b c:World} (h:But g a b) (k:Ext b c):But g a c :=
 h.trans ⟨k.os,k.tape,k.output,k.size,fun i hi _=>k.block i hi⟩
theorem But.setCell {g:Nat} {a b:World} (h:But g a b) (j:Nat) (v:Value):But g a (b.setCell ⟨g,j,none⟩ v) :=
 h.trans ⟨rfl,rfl,rfl,by simp [World.setCell],fun i hi hne=>Below.heap_setCell _ _ _ _ (fun e=>hne (by rw [e]))⟩
theorem But.below {g B:Nat} {a b:World} (h:But g a b) (hB:B≤g) (ha:B≤a.heap.size):Below B a b :=
 ⟨h.os,h.tape,h.output,h.size,fun i hi=>h.block i (by omega) (fun e=>by injection e;omega)⟩
theorem But.cell {g:Nat} {a b:World} (h:But g a b) {p:Addr} (hp:p.block<a.heap.size) (hne:p.block≠g):b.cell? p=a.cell? p:=World.cell?_of_block (h.block _ hp (fun e=>hne (by injection e)))
def Rd (w:World) (q:Nat) (pw:List Nat):Prop:=q<w.heap.size∧∀ j,j<pw.length→w.cell? ⟨q,j,none⟩=some (.int .u32 (lb pw j:Nat))
theorem Own.rd {w:World} {base q n c:Nat} {o:List Nat} (h:Own w base (.slice (some ⟨q,0,none⟩) n c) o):Rd w q o:=by obtain ⟨e,_,_⟩:=h.caps;subst e;exact ⟨h.block.2,fun j hj=>h.cell hj⟩
theorem Own.frozen' {w:World} {base g n c:Nat} {o:List Nat} (h:Own w base (.slice (some ⟨g,0,none⟩) n c) o) (j:Nat):w.frozen? ⟨g,j,none⟩=false:=by obtain ⟨e,_,_⟩:=h.caps;subst e;exact h.frozen j
theorem Own.ext {w w':World} {base g n c:Nat} {o:List Nat} (h:Own w base (.slice (some ⟨g,0,none⟩) n c) o) (hB:Ext w w'):Own w' base (.slice (some ⟨g,0,none⟩) n c) o :=
 h.below hB (fun g' hg=>by injection hg with hg;subst hg;exact h.block.2)
theorem Own.set' {w:World} {base g n c:Nat} {o:List Nat} (h:Own w base (.slice (some ⟨g,0,none⟩) n c) o) (j x:Nat):Own (w.setCell ⟨g,j,none⟩ (.int .u32 (x:Nat))) base (.slice (some ⟨g,0,none⟩) n c) (o.set j x):=by obtain ⟨e,_,_⟩:=h.caps;subst e;have:=h.qU j x;rwa [List.length_set] at this
theorem Z6 (w:World) (x:Nat) (h:x<256) :Calls prog 150 #[.int .u64 x] w fun e w'=>e = .returned (.int .i64 (dI x:Nat))∧w=w':=by
 have h65:decide ((65536:Int)≤(x:Nat))=false:=by rw [decide_eq_false_iff_not];omega
 have K8:decide ((256:Int)≤(x:Nat))=false:=by rw [decide_eq_false_iff_not];omega
 have h32:decide ((4294967296:Int)≤(x:Nat))=false:=by rw [decide_eq_false_iff_not];omega
 have HF:Hid (dI x=dI (x%256)):=by rw [Hid,Nat.mod_eq_of_lt h]
 have hI:=fun w=>nM (P:=prog) 9 underlying9 .u8 (x%256) (by omega) w;have hB:=eu (n:=x%256) (k:=8) (by omega);have hv:((x%256:Nat):Int)=(x:Int)%256:=by omega
 rw [hv] at hI;clear hv;generalize dI (x%256)=b at *;go_enter func150,ntmps150;generalize hT:(ByteArray.mk _:ByteArray)=T;have zL:T=zM:=by rw [← hT];exact qz
 rw [← zL] at hI;clear hT zL h;go_wp2;go_ret;exact ⟨by rw [HF.out];first | rfl | exact pz (by omega),rfl⟩
theorem Z7 (w:World) (x:Nat) (h:256≤x) (h2:x<65536) :Calls prog 150 #[.int .u64 x] w fun e w'=>e = .returned (.int .i64 (dI x:Nat))∧w=w':=by
 have h65:decide ((65536:Int)≤(x:Nat))=false:=by rw [decide_eq_false_iff_not];omega
 have K8:decide ((256:Int)≤(x:Nat))=true:=by rw [decide_eq_true_iff];omega
 have h32:decide ((4294967296:Int)≤(x:Nat))=false:=by rw [decide_eq_false_iff_not];omega
 have HF:Hid (dI x=8+dI (x/256%256)):=by rw [Hid,Nat.mod_eq_of_lt (by omega)];exact mV x 8 (by simp only [Nat.reducePow];omega)
 have hI:=fun w=>nM (P:=prog) 9 underlying9 .u8 (x/256%256) (by omega) w;have hB:=eu (n:=x/256%256) (k:=8) (by omega);have hv:((x/256%256:Nat):Int)=(x:Int)/256%256:=by omega
 rw [hv] at hI;clear hv;generalize dI (x/256%256)=b at *;go_enter func150,ntmps150;generalize hT:(ByteArray.mk _:ByteArray)=T;have zL:T=zM:=by rw [← hT];exact qz
 rw [← zL] at hI;clear hT zL h h2;go_wp2;go_ret;exact ⟨by rw [HF.out];first | rfl | exact pz (by omega),rfl⟩
theorem Z8 (w:World) (x:Nat) (h:65536≤x) (h2:x<16777216) :Calls prog 150 #[.int .u64 x] w fun e w'=>e = .returned (.int .i64 (dI x:Nat))∧w=w':=by
 have h65:decide ((65536:Int)≤(x:Nat))=true:=by rw [decide_eq_true_iff];omega
 have K8:decide ((256:Int)≤(x:Nat)/65536)=false:=by rw [decide_eq_false_iff_not];omega
 have h32:decide ((4294967296:Int)≤(x:Nat))=false:=by rw [decide_eq_false_iff_not];omega
 have HF:Hid (dI x=16+dI (x/65536%256)):=by rw [Hid,Nat.mod_eq_of_lt (by omega)];exact mV x 16 (by simp only [Nat.reducePow];omega)
 have hI:=fun w=>nM (P:=prog) 9 underlying9 .u8 (x/65536%256) (by omega) w;have hB:=eu (n:=x/65536%256) (k:=8) (by omega);have hv:((x/65536%256:Nat):Int)=(x:Int)/65536%256:=by omega
 rw [hv] at hI;clear hv;generalize dI (x/65536%256)=b at *;go_enter func150,ntmps150;generalize hT:(ByteArray.mk _:ByteArray)=T;have zL:T=zM:=by rw [← hT];exact qz
 rw [← zL] at hI;clear hT zL h h2;go_wp2;go_ret;exact ⟨by rw [HF.out];first | rfl | exact pz (by omega),rfl⟩
theorem Z9 (w:World) (x:Nat) (h:16777216≤x) (h2:x<4294967296) :Calls prog 150 #[.int .u64 x] w fun e w'=>e = .returned (.int .i64 (dI x:Nat))∧w=w':=by
 have h65:decide ((65536:Int)≤(x:Nat))=true:=by rw [decide_eq_true_iff];omega
 have K8:decide ((256:Int)≤(x:Nat)/65536)=true:=by rw [decide_eq_true_iff];omega
 have h32:decide ((4294967296:Int)≤(x:Nat))=false:=by rw [decide_eq_false_iff_not];omega
 have HF:Hid (dI x=24+dI (x/65536/256%256)):=by rw [Hid,Nat.div_div_eq_div_mul,Nat.mod_eq_of_lt (by omega)];exact mV x 24 (by simp only [Nat.reducePow];omega)
 have hI:=fun w=>nM (P:=prog) 9 underlying9 .u8 (x/65536/256%256) (by omega) w;have hB:=eu (n:=x/65536/256%256) (k:=8) (by omega);have hv:((x/65536/256%256:Nat):Int)=(x:Int)/65536/256%256:=by omega
 rw [hv] at hI;clear hv;generalize dI (x/65536/256%256)=b at *;go_enter func150,ntmps150;generalize hT:(ByteArray.mk _:ByteArray)=T;have zL:T=zM:=by rw [← hT];exact qz
 rw [← zL] at hI;clear hT zL h h2;go_wp2;go_ret;exact ⟨by rw [HF.out];first | rfl | exact pz (by omega),rfl⟩
theorem MX (w:World) (x:Nat) (h:x<4294967296) :Calls prog 150 #[.int .u64 x] w fun e w'=>e = .returned (.int .i64 (dI x:Nat))∧w=w':=by
 rcases Nat.lt_or_ge x 256 with h1 | h1
 · exact Z6 w x h1
 · rcases Nat.lt_or_ge x 65536 with h2 | h2
   · exact Z7 w x h1 h2
   · rcases Nat.lt_or_ge x 16777216 with h3 | h3
     · exact Z8 w x h2 h3
     · exact Z9 w x h3 h
theorem RZ (w:World) (x:Nat) (h:x<4294967296) :Calls prog 130 #[.int .u64 x] w fun e w'=>e = .returned (.int .i64 (dI x:Nat))∧w=w':=by go_enter func130,ntmps130;go_wp2_with (fail);refine (MX _ x h).mono ?_;rintro e w' ⟨rfl,rfl⟩;go_wp2;go_ret;exact ⟨rfl,rfl⟩
section
open Go Go.RowKit
abbrev A0f (f:FuncId) (a:Array Value) (w:World) (v:Value):=Calls Tryz.prog f a w fun e w'=>e = .returned v∧Pl.aS w w'
abbrev A0k (f:FuncId) (a:Array Value) (w:World) (v:Value):=Calls Tryz.prog f a w fun e w'=>e = .returned v∧Ext w w'
