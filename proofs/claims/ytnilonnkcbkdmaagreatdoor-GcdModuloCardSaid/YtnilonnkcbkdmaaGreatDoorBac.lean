/- Slices of 32-bit numbers: read, made by the call itself, appended to. -/
import Derived.Below
import Derived.Laws.OwnMore
import Derived.Laws.AppendOwn
import Derived.Laws.BitsAllLaws
import Derived.Laws.Bits64
import Derived.Deep.AppendLies
import Derived.Deep.Draws
import Derived.Lib.Hide
import Derived.OwnWalk
import Derived.Test.YtnilonnkcbkdmaaGreatDoorProg
import Derived.WalkKit
import Derived.ProofKit
import Derived.OpenShut
import Derived.JoinedCond
import Derived.RegionTactic
import Derived.LoopTactic
import Derived.BigQuiet
import Derived.Deep.QuietTactic
import Derived.Outline
import Derived.Deep.RegionHeld3

namespace Go.Proofs.YtnilonnkcbkdmaaGreatDoor
open Go.RowKit
set_option linter.unusedVariables false
def lb (xs:List Nat) (j:Nat):Nat:=xs[j]?.getD 0
theorem eX {xs:List Nat} {p:Nat} (hp:0<p) (h:∀ x∈xs,x<p) (j:Nat):lb xs j<p:=by
 unfold lb
 by_cases hj:j<xs.length
 · rw [List.getElem?_eq_getElem hj];exact h _ (List.getElem_mem hj)
 · rw [List.getElem?_eq_none (by omega)];exact hp
theorem aQ {xs:List Nat} (h:∀ x∈xs,x<4294967296) (j:Nat):lb xs j<4294967296:=eX (by decide) h j
theorem rP {xs ys:List Nat} (hl:xs.length=ys.length) (h:∀ j,j<xs.length→lb xs j=lb ys j):xs=ys:=by
 apply List.ext_getElem hl
 intro i h1 h2
 have:=h i h1
 unfold lb at this
 rwa [List.getElem?_eq_getElem h1,List.getElem?_eq_getElem h2] at this
theorem kv {xs:List Nat} {k j:Nat} (h:j<k):lb (xs.take k) j=lb xs j:=by
 unfold lb;rw [List.getElem?_take,if_pos h]
theorem FZ (xs:List Nat) (q i:Nat):lb (xs.drop q) i=lb xs (q+i):=by unfold lb;rw [List.getElem?_drop]
theorem qg {o:List Nat} {j:Nat} (x:Nat) (h:j<o.length):lb (o.set j x) j=x:=by simp [lb,h]
theorem dD {o:List Nat} {i j:Nat} (x:Nat) (h:i≠j):lb (o.set i x) j=lb o j:=by simp [lb,h]
theorem lV (o:List Nat) (i j x:Nat) (h:i<o.length):lb (o.set i x) j=if i=j then x else lb o j:=by
 by_cases e:i=j
 · subst e;rw [if_pos rfl,qg x h]
 · rw [if_neg e,dD x e]
theorem iR (n j:Nat):lb (List.replicate n 0) j=0:=by
 unfold lb;by_cases h:j<n<;>simp [h]
theorem kE {o:List Nat} {j:Nat} (h:o.length≤j):lb o j=0:=by simp [lb,List.getElem?_eq_none h]
theorem uL (o u:List Nat) (j:Nat):lb (o++u) j=if j<o.length then lb o j else lb u (j-o.length):=by
 unfold lb;rw [List.getElem?_append];split<;>rfl
theorem gm {o:List Nat} {j x b:Nat} (h:∀ y∈o,y<b) (hx:x<b):∀ y∈o.set j x,y<b:=by
 intro y hy
 rcases List.mem_or_eq_of_mem_set hy with h1 | h1
 · exact h y h1
 · omega
theorem wD {o:List Nat} {x b:Nat} (h:∀ y∈o,y<b) (hx:x<b):∀ y∈o++[x],y<b:=by
 intro y hy
 rcases List.mem_append.1 hy with h1 | h1
 · exact h y h1
 · obtain rfl:=List.mem_singleton.1 h1;exact hx
theorem aae {o:List Nat} {p:Nat} (h:∀ j,j<o.length→lb o j<p):∀ x∈o,x<p:=fun x hx=>by
 obtain ⟨j,hj,rfl⟩:=List.mem_iff_getElem.1 hx
 have:=h j hj
 unfold lb at this
 rwa [List.getElem?_eq_getElem hj] at this
theorem aM (a:Addr) (n:Nat):(a.add n).block=a.block:=by unfold Addr.add;split<;>rfl
theorem addr_add_add (a:Addr) (i j:Nat):(a.add i).add j=a.add (i+j):=by
 unfold Addr.add
 by_cases hi:i=0<;>by_cases hj:j=0<;>simp [hi,hj,Nat.add_assoc]
theorem fJ (a:Addr):a.add 0=a:=by simp [Addr.add]
theorem KG (g j:Nat):(⟨g,0,none⟩:Addr).add j=⟨g,j,none⟩:=by unfold Addr.add;split<;>simp_all
def U (w:World) (v:Value) (xs:List Nat):Prop :=
 ∃ (A:Option Addr) (c:Nat),v = .slice A xs.length c∧(xs.length≤c∧xs.length≤9223372036854775807)∧(∀ x∈xs,x<4294967296) ∧
  (0<xs.length→∃ ad,A=some ad∧ad.block<w.heap.size∧∀ j,j<xs.length→w.cell? (ad.add j)=some (.int .u32 (lb xs j:Nat)))
theorem U.keep {w w':World} {v:Value} {xs:List Nat} (h:U w v xs) (hs:w.heap.size≤w'.heap.size) (hk:∀ p:Addr,p.block<w.heap.size→w'.cell? p=w.cell? p):U w' v xs:=by
 obtain ⟨A,c,rfl,hc,hx,hr⟩:=h
 refine ⟨A,c,rfl,hc,hx,fun h0=>?_⟩
 obtain ⟨ad,hA,hb,hcell⟩:=hr h0
 exact ⟨ad,hA,by omega,fun j hj=>(hk _ (by rw [aM];exact hb)).trans (hcell j hj)⟩
theorem U.below {w w':World} {v:Value} {xs:List Nat} (h:U w v xs) (hb:Below w.heap.size w w'):U w' v xs:=h.keep hb.size fun _ hp=>hb.cell hp
theorem U.lim {w:World} {v:Value} {xs:List Nat} (h:U w v xs):∀ x∈xs,x<4294967296:=by
 obtain ⟨A,c,rfl,hc,hx,hr⟩:=h;exact hx
theorem U.mE (w:World) (A:Option Addr) (c:Nat):U w (.slice A 0 c) []:=⟨A,c,rfl,⟨Nat.zero_le _,Nat.zero_le _⟩,by simp,fun h=>absurd h (by simp)⟩
theorem U.take {w:World} {A:Option Addr} {n c:Nat} {xs:List Nat} (h:U w (.slice A n c) xs) {k c':Nat} (hk:k≤n) (hc':k≤c'):U w (.slice A k c') (xs.take k):=by
 obtain ⟨A,c,hv,hc,hx,hr⟩:=h
 injection hv with h1 h2 h3
 subst h1 h2 h3
 have hlen:(xs.take k).length=k:=by simp;omega
 refine ⟨_,c',by rw [hlen],by omega,fun x hx'=>hx x (List.mem_of_mem_take hx'),fun h0=>?_⟩
 obtain ⟨ad,hA,hb,hcell⟩:=hr (by omega)
 refine ⟨ad,hA,hb,fun j hj=>?_⟩
 rw [hcell j (by omega),kv (by omega)]
def ou (o:List Nat):List Value:=o.map fun x=>Value.int .u32 (x:Nat)
theorem fF (o:List Nat):(ou o).length=o.length:=by simp [ou]
theorem nO (o:List Nat) {j:Nat} (h:j<o.length):(ou o)[j]?=some (.int .u32 (lb o j:Nat)):=by
 unfold ou lb;simp [h]
theorem iI (a b:List Nat):ou (a++b)=ou a++ou b:=by simp [ou]
theorem ajl (a:List Nat) (i x:Nat):ou (a.set i x)=(ou a).set i (.int .u32 (x:Nat)):=by simp [ou,List.map_set]
theorem aaf (k:Nat):ou (List.replicate k 0)=List.replicate k (.int .u32 0):=by simp [ou]
def Own (w:World) (base:Nat) (v:Value) (o:List Nat):Prop:=w.ownsRow base 43 1 v o.length (ou o)
theorem Own.lW {w:World} {base:Nat} {v:Value} {o:List Nat} (h:Own w base v o) (hx:∀ x∈o,x<4294967296) (hm:o.length≤9223372036854775807):U w v o:=by
 have h0:w.ownsRow base 43 1 v o.length (ou o):=h
 rcases h0.2 with ⟨rfl,h1⟩ | ⟨g,cap,cur,rfl,hg,hh,h1,h2,h3,h4⟩
 · refine ⟨none,0,by rw [h1],by omega,hx,fun hp=>absurd hp (by omega)⟩
 · refine ⟨_,cap,rfl,⟨h1,hm⟩,hx,fun hp=>⟨_,rfl,(h0.lt g rfl).2,fun j hj=>?_⟩⟩
   exact h0.cells (g:=g) rfl j _ (nO o hj)
theorem Own.cell {w:World} {base g c:Nat} {o:List Nat} (h:Own w base (.slice (some ⟨g,0,none⟩) o.length c) o) {j:Nat} (hj:j<o.length):w.cell? ⟨g,j,none⟩=some (.int .u32 (lb o j:Nat)):=by
 rw [World.ownsRow.cellAt h j (by omega)];exact nO o hj
theorem Own.frozen {w:World} {base g c:Nat} {o:List Nat} (h:Own w base (.slice (some ⟨g,0,none⟩) o.length c) o) (j:Nat):w.frozen? ⟨g,j,none⟩=false:=World.ownsRow.frozenAt h j
theorem Own.rO {w:World} {base g c:Nat} {o:List Nat} (h:Own w base (.slice (some ⟨g,0,none⟩) o.length c) o) (j x:Nat):Own (w.setCell ⟨g,j,none⟩ (.int .u32 (x:Nat))) base (.slice (some ⟨g,0,none⟩) (o.set j x).length c) (o.set j x):=by
 have:=(World.ownsRow.stored h j (.int .u32 (x:Nat))).1
 unfold Own
 rw [ajl,List.length_set]
 exact this
theorem Own.drew {w:World} {base:Nat} {v:Value} {o:List Nat} (h:Own w base v o):Own w.drew base v o:=h
theorem Own.alloc {w:World} {base:Nat} {v:Value} {o:List Nat} (h:Own w base v o) (x:Obj):Own (w.alloc x) base v o:=World.ownsRow.alloc h x
theorem Own.block {w:World} {base g n c:Nat} {o:List Nat} (h:Own w base (.slice (some ⟨g,0,none⟩) n c) o):base≤g∧g<w.heap.size:=by
 have h0:w.ownsRow base 43 1 (.slice (some ⟨g,0,none⟩) n c) o.length (ou o):=h
 exact h0.lt g rfl
theorem Own.caps {w:World} {base g n c:Nat} {o:List Nat} (h:Own w base (.slice (some ⟨g,0,none⟩) n c) o):n=o.length∧n≤c∧c≤maxLen:=by
 rcases h.2 with ⟨h1,_⟩ | ⟨g',cap,cur,h1,hg,hh,h2,h3,h4,h5⟩
 · cases h1
 · injection h1 with e1 e2 e3
   subst e2 e3
   exact ⟨rfl,h2,h3⟩
theorem Own.below {w w':World} {base B:Nat} {v:Value} {o:List Nat} (h:Own w base v o) (hB:Below B w w') (hv:∀ g,v.ownBlock=some g→g<B):Own w' base v o:=by
 refine ⟨h.1,?_⟩
 rcases h.2 with hn | ⟨g,cap,cur,rfl,hb,hgg,rest⟩
 · exact .inl hn
 · refine .inr ⟨g,cap,cur,rfl,hb,?_,rest⟩
   rw [hB.block g (hv g rfl)]
   exact hgg
theorem Own.zeros {w:World} {base g:Nat} {n:Nat} (h:w.ownsRow base 43 1 (.slice (some ⟨g,0,none⟩) n n) n (madeCells (Value.int .u32 0).cells (n*1)).toList) :
  Own w base (.slice (some ⟨g,0,none⟩) (List.replicate n 0).length n) (List.replicate n 0):=by
 have e:(madeCells (Value.int .u32 0).cells (n*1)).toList=ou (List.replicate n 0):=by
  rw [aaf,Nat.mul_one];exact toList_madeCells_one _ _
 rw [e] at h
 unfold Own
 rw [List.length_replicate]
 exact h
def okV (r:Result Value):Value:=match r with | .ok v _=>v | _=>undef
def okW (w:World) (r:Result Value):World:=match r with | .ok _ w'=>w' | _=>w
def akY (P:Program) (t ty:TypeId) (s x:Value) (w:World):Prop:=∃ v w',(Builtin.append_ #[t,t] ty #[s,x]).run P w = .ok v w'
def AV (P:Program) (t ty:TypeId) (s x:Value) (w:World):Value:=okV ((Builtin.append_ #[t,t] ty #[s,x]).run P w)
def AW (P:Program) (t ty:TypeId) (s x:Value) (w:World):World:=okW w ((Builtin.append_ #[t,t] ty #[s,x]).run P w)
def apj (ts:Array TypeId) (ty:TypeId) (args:Array Value):Sem Value:=Builtin.append_ ts ty args
theorem dH (ts:Array TypeId) (ty:TypeId) (args:Array Value):Builtin.append_ ts ty args=apj ts ty args:=rfl
theorem aT {P:Program} {t ty:TypeId} {s x:Value} {w:World} (h:akY P t ty s x w) :
  (apj #[t,t] ty #[s,x]).run P w = .ok (AV P t ty s x w) (AW P t ty s x w):=by
 obtain ⟨v,w',h⟩:=h
 unfold AV AW apj
 rw [h]
 rfl
theorem aU {P:Program} {t ty:TypeId} {s x:Value} {w:World} {v:Value} {w':World} (h:(Builtin.append_ #[t,t] ty #[s,x]).run P w = .ok v w') :
  akY P t ty s x w∧AV P t ty s x w=v∧AW P t ty s x w=w':=by
 refine ⟨⟨v,w',h⟩,?_,?_⟩
 · unfold AV;rw [h];rfl
 · unfold AW;rw [h];rfl
theorem iT:(Tryz.prog.info? 43).map (fun i=>(i.zero,i.size,i.bytes))=some (some (.int .u32 0),1,4):=by kernel_rfl
theorem dz {P:Program} (w:World) (base:Nat) (t ty e:TypeId) (i:TypeInfo) (size:Nat) (ht:P.underlying t=some (.slice e)) (hi:P.info? e=some i)
  (v:Value) (n c:Nat) (xs:List Value) (hown:w.ownsRow base e size v n xs) :
  (Builtin.append_ #[t,t] ty #[v,.slice none 0 c]).run P w = .ok v w:=by
 rcases hown.2 with ⟨rfl,rfl⟩ | ⟨g,cap,cur,rfl,_,_,hnc,_⟩
 · simp [Builtin.append_,run_underlying ht,sizeOf,typeInfo,hi,Builtin.lenOf,Builtin.firstCells]
 · simp [Builtin.append_,run_underlying ht,sizeOf,typeInfo,hi,Builtin.lenOf,Builtin.firstCells,hnc,storeCells]
theorem bE (w:World) (base:Nat) (v:Value) (o:List Nat) (hown:Own w base v o) (x:Value) (ys:List Nat) (hx:U w x ys) (hlen:o.length+ys.length≤35184372088832) (hbase:base≤w.heap.size) :
  ∃ v' w',(Builtin.append_ #[22,22] 22 #[v,x]).run Tryz.prog w = .ok v' w'∧Own w' base v' (o++ys)∧w.grownBy w' v.ownBlock:=by
 obtain ⟨i0,hi,hz0,hz1,hz2⟩:=info_parts iT
 obtain ⟨A,c,rfl,⟨h1,h2⟩,hlt,hr⟩:=hx
 cases A with
 | none =>
  have h0:ys.length=0:=by
   rcases Nat.eq_zero_or_pos ys.length with h0 | h0
   · exact h0
   · obtain ⟨ad,h,_⟩:=hr h0;cases h
  obtain rfl:=List.eq_nil_of_length_eq_zero h0
  refine ⟨v,w,dz w base 22 22 43 i0 1 Tryz.underlying22 hi v _ c _ hown,by rw [List.append_nil];exact hown,World.grownBy.refl w _⟩
 | some ad =>
  have hcells:∀ j u,(ou ys)[j]?=some u→w.cell? (ad.add j)=some u:=fun j u hj=>by
   have hjl:j<ys.length:=by
    rcases Nat.lt_or_ge j ys.length with h | h
    · exact h
    · rw [List.getElem?_eq_none (by rw [fF];exact h)] at hj;cases hj
   obtain ⟨ad',e',_,hcell⟩:=hr (by omega)
   replace e':=Option.some.inj e'
   subst e'
   rw [hcell j hjl,← nO ys hjl,hj]
  obtain ⟨v',w',hrun,hown',hg,_⟩:=run_append_own (P:=Tryz.prog) w base 22 22 43 i0 (.int .u32 0) 1 4 Tryz.underlying22 hi hz0 hz1 hz2 rfl (by decide) v o.length (ou o) hown ad ys.length c (ou ys) (by rw [fF,Nat.mul_one]) hcells
   (by intro u hu;obtain ⟨z,_,rfl⟩:=List.mem_map.1 hu;rfl) (by unfold maxLen;omega) (by omega) hbase
  exact ⟨v',w',hrun,by unfold Own;rw [iI,List.length_append];exact hown',hg⟩
def Ext (a b:World):Prop:=Below a.heap.size a b
theorem Ext.refl (w:World):Ext w w:=Below.refl _ _
theorem Ext.alloc {a b:World} (h:Ext a b) (o:Obj):Ext a (b.alloc o):=Below.alloc h h.size o
theorem Ext.below {a b c:World} (h:Ext a b) (k:Ext b c):Ext a c:=Below.trans h (Below.mono k h.size)
theorem Ext.drew {a b:World} (h:Ext a b):Ext a b.drew:=Below.drew h
theorem U.alloc {w:World} {v:Value} {xs:List Nat} (h:U w v xs) (o:Obj):U (w.alloc o) v xs:=U.below h ((Ext.refl w).alloc o)
theorem eU (w:World) (n:Nat):Ext w (w.drewN n):=⟨rfl,rfl,rfl,Nat.le_refl _,fun _ _=>rfl⟩
theorem xJ (w:World) (xs:List Nat) (hx:∀ x∈xs,x<4294967296) (hm:xs.length≤1000000):U (w.alloc (.cells (ou xs).toArray 43)) (.slice (some ⟨w.heap.size,0,none⟩) xs.length xs.length) xs:=by
 refine Own.lW (base:=w.heap.size) ?_ hx (by omega)
 have:=World.ownsRow_lit (base:=w.heap.size) (e := 43) (size:=1) w (ou xs).toArray xs.length (Nat.le_refl _) (by unfold maxLen;omega) (by simp [fF])
 simpa [Own] using this
theorem mJ {k:IntKind} {a b:Int} (h:a=b):Ending.returned (.int k a) = .returned (.int k b):=by rw [h]
end Go.Proofs.YtnilonnkcbkdmaaGreatDoor
/- Sums and congruences, and what a transform of a power of 2 of numbers comes to: plain integers. -/
namespace Go.Proofs.YtnilonnkcbkdmaaGreatDoor
def sm (n:Nat) (f:Nat→Int):Int:=match n with
 | 0=>0
 | n+1=>sm n f+f n
theorem Ou (f:Nat→Int):sm 0 f=0:=rfl
theorem qd (n:Nat) (f:Nat→Int):sm (n+1) f=sm n f+f n:=rfl
theorem apD (f:Nat→Int):sm 1 f=f 0:=by rw [qd,Ou];omega
theorem Ro {n:Nat} {f g:Nat→Int} (h:∀ i,i<n→f i=g i):sm n f=sm n g:=by
 induction n with
 | zero=>rfl
 | succ n ih=>rw [qd,qd,ih fun i hi=>h i (by omega),h n (by omega)]
theorem UT (n:Nat) (f g:Nat→Int):sm n (fun i=>f i+g i)=sm n f+sm n g:=by
 induction n with
 | zero=>rfl
 | succ n ih=>simp only [qd,ih];omega
theorem apE (n:Nat) (c:Int) (f:Nat→Int):sm n (fun i=>c*f i)=c*sm n f:=by
 induction n with
 | zero=>simp [Ou]
 | succ n ih=>simp only [qd,ih];rw [Int.mul_add]
theorem XO (n:Nat) (c:Int) (f:Nat→Int):sm n (fun i=>f i*c)=sm n f*c:=by
 rw [Int.mul_comm,← apE];exact Ro fun i _=>Int.mul_comm _ _
theorem agJ (m n:Nat) (f:Nat→Int):sm (m+n) f=sm m f+sm n (fun i=>f (m+i)):=by
 induction n with
 | zero=>rw [Nat.add_zero,Ou];omega
 | succ n ih=>rw [← Nat.add_assoc,qd,qd,ih];omega
theorem UU (h:Nat) (f:Nat→Int):sm (2*h) f=sm h (fun i=>f i+f (h+i)):=by
 rw [show 2*h=h+h by omega,agJ,UT]
def gJ (p a b:Int):Prop:=∃ c,a=b+p*c
theorem gJ.refl (p a:Int):gJ p a a:=⟨0,by simp⟩
theorem gJ.of_eq {p a b:Int} (h:a=b):gJ p a b:=h ▸ gJ.refl p a
theorem gJ.symm {p a b:Int}:gJ p a b→gJ p b a:=fun ⟨c,h⟩=>⟨-c,by grind⟩
theorem gJ.trans {p a b c:Int}:gJ p a b→gJ p b c→gJ p a c:=fun ⟨x,h⟩ ⟨y,g⟩=>⟨x+y,by grind⟩
theorem gJ.add {p a b c d:Int}:gJ p a b→gJ p c d→gJ p (a+c) (b+d):=fun ⟨x,h⟩ ⟨y,g⟩=>⟨x+y,by grind⟩
theorem gJ.sub {p a b c d:Int}:gJ p a b→gJ p c d→gJ p (a-c) (b-d):=fun ⟨x,h⟩ ⟨y,g⟩=>⟨x-y,by grind⟩
theorem gJ.mul {p a b c d:Int}:gJ p a b→gJ p c d→gJ p (a*c) (b*d):=fun ⟨x,h⟩ ⟨y,g⟩=>⟨b*y+x*d+p*x*y,by grind⟩
theorem gJ.pow {p a b:Int} (h:gJ p a b) (n:Nat):gJ p (a^n) (b^n):=by
 induction n with
 | zero=>rw [Int.pow_zero,Int.pow_zero];exact gJ.refl _ _
 | succ n ih=>rw [Int.pow_succ,Int.pow_succ];exact ih.mul h
theorem gJ.sm {p:Int} {n:Nat} {f g:Nat→Int} (h:∀ i,i<n→gJ p (f i) (g i)):gJ p (sm n f) (sm n g):=by
 induction n with
 | zero=>exact gJ.refl _ _
 | succ n ih=>rw [qd,qd];exact (ih fun i hi=>h i (by omega)).add (h n (by omega))
theorem gJ.mod (p a:Int):gJ p (a%p) a:=⟨-(a/p),by have:=Int.emod_add_mul_ediv a p;grind⟩
theorem gJ.emod {p a b:Int} (h:gJ p a b):a%p=b%p:=by obtain ⟨c,rfl⟩:=h;rw [Int.add_mul_emod_self_left]
theorem gJ.ahx {p a b:Int} (h:a%p=b%p):gJ p a b:=((gJ.mod p a).symm.trans (gJ.of_eq h)).trans (gJ.mod p b)
theorem gJ.eq {p a b:Nat} (h:gJ (p:Int) (a:Int) (b:Int)) (ha:a<p) (hb:b<p):a=b:=by
 have:=h.emod
 rw [Int.emod_eq_of_lt (by omega) (by omega),Int.emod_eq_of_lt (by omega) (by omega)] at this
 omega
theorem gJ.FC (p a:Nat):gJ (p:Int) ((a%p:Nat):Int) (a:Int):=by
 rw [Int.natCast_emod];exact gJ.mod _ _
def rev:Nat→Nat→Nat
 | 0,_=>0
 | s+1,b=>rev s (b/2)+b%2*2^s
theorem RZ (s b:Nat):rev s b<2^s:=by
 induction s generalizing b with
 | zero=>simp [rev]
 | succ s ih=>have:=ih (b/2);simp only [rev,Nat.pow_succ];have:b%2<2:=Nat.mod_lt _ (by decide);rcases (show b%2=0∨b%2=1 by omega) with e | e<;>rw [e]<;>omega
theorem rev_succ (s b:Nat):rev (s+1) b=2*rev s b+b/2^s%2:=by
 induction s generalizing b with
 | zero=>simp [rev]
 | succ s ih =>
  rw [rev,ih (b/2)]
  show _=2*(rev s (b/2)+b%2*2^s)+_
  rw [Nat.div_div_eq_div_mul,← Nat.pow_succ',Nat.pow_succ]
  generalize b/(2^s*2)%2=x
  rcases (show b%2=0∨b%2=1 by omega) with e | e<;>rw [e]<;>omega
theorem Ov (s b _h:Nat) (hb:b<2^s):rev (s+1) b=2*rev s b:=by
 rw [rev_succ,Nat.div_eq_of_lt hb];omega
theorem ajD (s b c:Nat):rev s (b+2^s*c)=rev s b:=by
 induction s generalizing b c with
 | zero=>rfl
 | succ s ih =>
  have e1:(b+2^(s+1)*c)/2=b/2+2^s*c:=by rw [Nat.pow_succ',Nat.mul_assoc];omega
  have e2:(b+2^(s+1)*c)%2=b%2:=by rw [Nat.pow_succ',Nat.mul_assoc];omega
  rw [rev,rev,e1,e2,ih]
theorem JS (s b:Nat) (hb:b<2^s):rev (s+1) (2^s+b)=2*rev s b+1:=by
 rw [rev_succ,show 2^s+b=b+2^s*1 by omega,ajD,Nat.add_mul_div_left _ _ (Nat.two_pow_pos s),Nat.div_eq_of_lt hb]
theorem Rp (s b:Nat):rev (s+1) (2*b)=rev s b:=by
 rw [rev,show 2*b/2=b by omega,show 2*b%2=0 by omega];omega
theorem XP (s b:Nat):rev (s+1) (2*b+1)=rev s b+2^s:=by
 rw [rev,show (2*b+1)/2=b by omega,show (2*b+1)%2=1 by omega];omega
theorem rev_rev (s b:Nat) (h:b<2^s):rev s (rev s b)=b:=by
 induction s generalizing b with
 | zero=>simp [rev] at *;omega
 | succ s ih =>
  rw [Nat.pow_succ] at h
  rcases (show b=2*(b/2)∨b=2*(b/2)+1 by omega) with e | e
  · rw [e,Rp,Ov _ _ 0 (RZ _ _),ih _ (by omega)]
  · rw [e,XP,Nat.add_comm (rev s (b/2)),JS _ _ (RZ _ _),ih _ (by omega)]
theorem pow_even {p u:Int} {n:Nat} (h:gJ p (u^n) 1) (t:Nat):gJ p (u^(n*t)) 1:=by
 rw [Int.pow_mul];have:=h.pow t;rwa [Int.one_pow] at this
end Go.Proofs.YtnilonnkcbkdmaaGreatDoor
/- Numbers modulo a prime, times 2^32, as Montgomery has them. -/
namespace Go.Proofs.YtnilonnkcbkdmaaGreatDoor
open Go.RowKit
set_option linter.unusedVariables false
set_option maxHeartbeats 400000
structure Fd where
 p:Nat
 root:Nat
 neg:Nat
 square:Nat
 ahead:Nat
 ri:Nat
abbrev Fd.V (f:Fd):Value:=.agg #[.int .u32 (f.p:Int),.int .u32 (f.root:Int),.int .u32 (f.neg:Int),.int .u32 (f.square:Int),.int .u32 (f.ahead:Int)]
structure Good (f:Fd):Prop where
 p0:1<f.p
 p1:f.p<1073741824
 n1:f.neg<4294967296
 neg:(f.neg*f.p+1)%4294967296=0
 ri:f.ri*4294967296%f.p=1
 rb:f.root<f.p
 sb:f.square<f.p
 sq:f.square=4294967296*4294967296%f.p
 ab:f.ahead<f.p
def mm (f:Fd) (x y:Nat):Nat:=x*y*f.ri%f.p
theorem aaM (f:Fd) (hf:Good f) (x y:Nat):mm f x y<f.p:=Nat.mod_lt _ (by have:=hf.p0;omega)
def zo (f:Fd) (x:Nat):Nat:=x*4294967296%f.p
theorem Vp (f:Fd) (hf:Good f) (x:Nat):zo f x<f.p:=Nat.mod_lt _ (by have:=hf.p0;omega)
theorem F7 (a b p:Nat):a%p*b%p=a*b%p:=by rw [Nat.mul_mod,Nat.mod_mod,← Nat.mul_mod]
theorem aha (f:Fd) (hf:Good f) (x y:Nat):mm f (zo f x) y=x*y%f.p:=by
 unfold mm zo
 rw [Nat.mul_assoc,F7,show x*4294967296*(y*f.ri)=f.ri*4294967296*(x*y) by grind,← F7,hf.ri,Nat.one_mul]
theorem ag' (f:Fd) (x y:Nat):mm f x y=mm f y x:=by unfold mm;rw [Nat.mul_comm x]
end Go.Proofs.YtnilonnkcbkdmaaGreatDoor
/- Lengths in bits. -/
namespace Go.Proofs.YtnilonnkcbkdmaaGreatDoor
open Go.RowKit
set_option linter.unusedVariables false
set_option maxHeartbeats 400000
def bS (n:Nat):Nat:=if n=0 then 0 else n.log2+1
theorem dI (n:Nat):n<2^bS n:=by
 unfold bS
 split
 · subst_vars;decide
 · exact Nat.lt_log2_self
theorem xI {n:Nat} (h:n≠0):2^(bS n-1)≤n:=by
 unfold bS
 rw [if_neg h,Nat.add_sub_cancel]
 exact Nat.log2_self_le h
theorem agu {n:Nat} (h:n≠0):0<bS n:=by unfold bS;rw [if_neg h];omega
theorem dB {n k:Nat} (h:n<2^k):bS n≤k:=by
 by_cases h0:n=0
 · subst h0;exact Nat.zero_le _
 · have h1:=Nat.lt_of_le_of_lt (xI h0) h
   have:=(Nat.pow_lt_pow_iff_right (by decide:1<2)).1 h1
   omega
theorem gU {n k:Nat} (h:2^k≤n):k<bS n:=by
 have h1:=Nat.lt_of_le_of_lt h (dI n)
 exact (Nat.pow_lt_pow_iff_right (by decide:1<2)).1 h1
theorem wH (n k:Nat) (h:n/2^k≠0):bS n=k+bS (n/2^k):=by
 have hp:=agu h
 have h1:=xI h
 have h2:=dI (n/2^k)
 have hk:0<2^k:=Nat.two_pow_pos k
 have g1:2^(k+bS (n/2^k)-1)≤n:=by
  have:k+bS (n/2^k)-1=(bS (n/2^k)-1)+k:=by omega
  rw [this,Nat.pow_add]
  exact Nat.le_trans (Nat.mul_le_mul_right _ h1) (Nat.div_mul_le_self n (2^k))
 have g2:n<2^(k+bS (n/2^k)):=by
  rw [Nat.pow_add]
  exact Nat.lt_mul_of_div_lt h2 hk |> fun h=>by rwa [Nat.mul_comm] at h
 have a:=dB g2
 have b:=gU g1
 omega
def J4:ByteArray:=⟨((List.range 256).map fun n=>UInt8.ofNat (bS n)).toArray⟩
theorem Mr:J4.size=256:=by decide +kernel
theorem agv:∀ p:Fin 256,(J4[p.val]'(by rw [Mr];exact p.isLt)).toNat=bS p.val:=by decide +kernel
theorem BF:(⟨(([0,1,2,2,3,3,3,3,4,4,4,4,4,4,4,4,5,5,5,5,5,5,5,5,5,5,5,5,5,5,5,5,6,6,6,6,6,6,6,6,6,6,6,6,6,6,6,6,6,6,6,6,6,6,6,6,6,6,6,6,6,6,6,6].append [7,7,7,7,7,7,7,7,7,7,7,7,7,7,7,7,7,7,7,7,7,7,7,7,7,7,7,7,7,7,7,7,7,7,7,7,7,7,7,7,7,7,7,7,7,7,7,7,7,7,7,7,7,7,7,7,7,7,7,7,7,7,7,7]).append ([8,8,8,8,8,8,8,8,8,8,8,8,8,8,8,8,8,8,8,8,8,8,8,8,8,8,8,8,8,8,8,8,8,8,8,8,8,8,8,8,8,8,8,8,8,8,8,8,8,8,8,8,8,8,8,8,8,8,8,8,8,8,8,8].append [8,8,8,8,8,8,8,8,8,8,8,8,8,8,8,8,8,8,8,8,8,8,8,8,8,8,8,8,8,8,8,8,8,8,8,8,8,8,8,8,8,8,8,8,8,8,8,8,8,8,8,8,8,8,8,8,8,8,8,8,8,8,8,8])).toArray⟩:ByteArray)=J4:=by decide +kernel
theorem xC {P:Program} (t:TypeId) (ht:P.underlying t=some .string) (k:IntKind) (i:Nat) (hi:i<256) (w:World) :
  (Instr.index t (.string J4) (.int k (i:Int))).run P w = .ok (.int .u8 (bS i:Nat)) w:=by
 rw [run_index_string w t J4 k _ ht,dif_pos ⟨by omega,by rw [Mr];omega⟩]
 have e:((i:Int)).toNat=i:=by omega
 simp only [e]
 rw [agv ⟨i,hi⟩]
theorem ajx (w:World) (x:Nat) (h:x<256) :
  Calls Tryz.prog 100 #[.int .u32 x] w fun e w'=>e = .returned (.int .i64 (bS x:Nat))∧w=w':=by
 have h65:decide ((65536:Int)≤(x:Nat))=false:=by rw [decide_eq_false_iff_not];omega
 have ahh:decide ((256:Int)≤(x:Nat))=false:=by rw [decide_eq_false_iff_not];omega
 have HF:Hid (bS x=bS (x%256)):=by rw [Hid,Nat.mod_eq_of_lt h]
 have hI:=fun w=>xC (P:=Tryz.prog) 9 Tryz.underlying9 .u8 (x%256) (by omega) w
 have hB:=dB (n:=x%256) (k:=8) (by omega)
 have hv:((x%256:Nat):Int)=(x:Int)%256:=by omega
 rw [hv] at hI
 clear hv
 generalize bS (x%256)=b at *
 go_enter Tryz.func100,Tryz.ntmps100
 generalize hT:(ByteArray.mk _:ByteArray)=T
 have OI:T=J4:=by rw [← hT];exact BF
 rw [← OI] at hI
 clear hT OI h
 go_wp2
 go_ret
 exact ⟨by rw [HF.out];first | rfl | exact mJ (by omega),rfl⟩
theorem ajy (w:World) (x:Nat) (h:256≤x) (h2:x<65536) :
  Calls Tryz.prog 100 #[.int .u32 x] w fun e w'=>e = .returned (.int .i64 (bS x:Nat))∧w=w':=by
 have h65:decide ((65536:Int)≤(x:Nat))=false:=by rw [decide_eq_false_iff_not];omega
 have ahh:decide ((256:Int)≤(x:Nat))=true:=by rw [decide_eq_true_iff];omega
 have HF:Hid (bS x=8+bS (x/256%256)):=by
  rw [Hid,Nat.mod_eq_of_lt (by omega)];exact wH x 8 (by simp only [Nat.reducePow];omega)
 have hI:=fun w=>xC (P:=Tryz.prog) 9 Tryz.underlying9 .u8 (x/256%256) (by omega) w
 have hB:=dB (n:=x/256%256) (k:=8) (by omega)
 have hv:((x/256%256:Nat):Int)=(x:Int)/256%256:=by omega
 rw [hv] at hI
 clear hv
 generalize bS (x/256%256)=b at *
 go_enter Tryz.func100,Tryz.ntmps100
 generalize hT:(ByteArray.mk _:ByteArray)=T
 have OI:T=J4:=by rw [← hT];exact BF
 rw [← OI] at hI
 clear hT OI h h2
 go_wp2
 go_ret
 exact ⟨by rw [HF.out];first | rfl | exact mJ (by omega),rfl⟩
theorem ajz (w:World) (x:Nat) (h:65536≤x) (h2:x<16777216) :
  Calls Tryz.prog 100 #[.int .u32 x] w fun e w'=>e = .returned (.int .i64 (bS x:Nat))∧w=w':=by
 have h65:decide ((65536:Int)≤(x:Nat))=true:=by rw [decide_eq_true_iff];omega
 have ahh:decide ((256:Int)≤(x:Nat)/65536)=false:=by rw [decide_eq_false_iff_not];omega
 have HF:Hid (bS x=16+bS (x/65536%256)):=by
  rw [Hid,Nat.mod_eq_of_lt (by omega)];exact wH x 16 (by simp only [Nat.reducePow];omega)
 have hI:=fun w=>xC (P:=Tryz.prog) 9 Tryz.underlying9 .u8 (x/65536%256) (by omega) w
 have hB:=dB (n:=x/65536%256) (k:=8) (by omega)
 have hv:((x/65536%256:Nat):Int)=(x:Int)/65536%256:=by omega
 rw [hv] at hI
 clear hv
 generalize bS (x/65536%256)=b at *
 go_enter Tryz.func100,Tryz.ntmps100
 generalize hT:(ByteArray.mk _:ByteArray)=T
 have OI:T=J4:=by rw [← hT];exact BF
 rw [← OI] at hI
 clear hT OI h h2
 go_wp2
 go_ret
 exact ⟨by rw [HF.out];first | rfl | exact mJ (by omega),rfl⟩
theorem ajA (w:World) (x:Nat) (h:16777216≤x) (h2:x<4294967296) :
  Calls Tryz.prog 100 #[.int .u32 x] w fun e w'=>e = .returned (.int .i64 (bS x:Nat))∧w=w':=by
 have h65:decide ((65536:Int)≤(x:Nat))=true:=by rw [decide_eq_true_iff];omega
 have ahh:decide ((256:Int)≤(x:Nat)/65536)=true:=by rw [decide_eq_true_iff];omega
 have HF:Hid (bS x=24+bS (x/65536/256%256)):=by
  rw [Hid,Nat.div_div_eq_div_mul,Nat.mod_eq_of_lt (by omega)];exact wH x 24 (by simp only [Nat.reducePow];omega)
 have hI:=fun w=>xC (P:=Tryz.prog) 9 Tryz.underlying9 .u8 (x/65536/256%256) (by omega) w
 have hB:=dB (n:=x/65536/256%256) (k:=8) (by omega)
 have hv:((x/65536/256%256:Nat):Int)=(x:Int)/65536/256%256:=by omega
 rw [hv] at hI
 clear hv
 generalize bS (x/65536/256%256)=b at *
 go_enter Tryz.func100,Tryz.ntmps100
 generalize hT:(ByteArray.mk _:ByteArray)=T
 have OI:T=J4:=by rw [← hT];exact BF
 rw [← OI] at hI
 clear hT OI h h2
 go_wp2
 go_ret
 exact ⟨by rw [HF.out];first | rfl | exact mJ (by omega),rfl⟩
theorem ET (w:World) (x:Nat) (h:x<4294967296) :
  Calls Tryz.prog 100 #[.int .u32 x] w fun e w'=>e = .returned (.int .i64 (bS x:Nat))∧w=w':=by
 rcases Nat.lt_or_ge x 256 with h1 | h1
 · exact ajx w x h1
 · rcases Nat.lt_or_ge x 65536 with h2 | h2
   · exact ajy w x h1 h2
   · rcases Nat.lt_or_ge x 16777216 with h3 | h3
     · exact ajz w x h2 h3
     · exact ajA w x h3 h
end Go.Proofs.YtnilonnkcbkdmaaGreatDoor
/- Powers modulo a prime; roots of 1. -/
namespace Go.Proofs.YtnilonnkcbkdmaaGreatDoor
open Go.RowKit
set_option linter.unusedVariables false
set_option maxHeartbeats 400000
def Bx (w:World) (B:Nat) (f:Fd):Prop:=B<w.heap.size∧w.cell? ⟨B,0,none⟩=some (.int .u32 (f.p:Int))∧w.cell? ⟨B,1,none⟩=some (.int .u32 (f.root:Int))∧w.cell? ⟨B,2,none⟩=some (.int .u32 (f.neg:Int))∧w.cell? ⟨B,3,none⟩=some (.int .u32 (f.square:Int))∧w.cell? ⟨B,4,none⟩=some (.int .u32 (f.ahead:Int))
theorem Bx.below {w w':World} {B C:Nat} {f:Fd} (h:Bx w B f) (hB:Below C w w') (hc:B<C):Bx w' B f:=by
 obtain ⟨h0,h1,h2,h3,h4,h5⟩:=h
 have hs:=hB.size
 have hc:=fun o=>hB.cell (p:=⟨B,o,none⟩) hc
 exact ⟨by omega,by rw [hc];exact h1,by rw [hc];exact h2,by rw [hc];exact h3,by rw [hc];exact h4,by rw [hc];exact h5⟩
theorem Bx.ext {w w':World} {B:Nat} {f:Fd} (h:Bx w B f) (hB:Ext w w'):Bx w' B f:=h.below hB h.1
theorem Bx.new (w:World) (f:Fd):Bx (w.alloc (.cells #[.int .u32 (f.p:Int),.int .u32 (f.root:Int),.int .u32 (f.neg:Int),.int .u32 (f.square:Int),.int .u32 (f.ahead:Int)] 159)) w.heap.size f:=by
 refine ⟨by simp,?_,?_,?_,?_,?_⟩<;>go_simp
def rt (f:Fd) (k:Nat):Nat:=f.root^((f.p-1)/2^k)
def bt (f:Fd) (k:Nat):Nat:=rt f k^(f.p-2)
def sh (f:Fd) (n:Nat):Nat:=n^(f.p-2)
end Go.Proofs.YtnilonnkcbkdmaaGreatDoor
/- The powers of a root that a transform wants. -/
namespace Go.Proofs.YtnilonnkcbkdmaaGreatDoor
open Go.RowKit
set_option linter.unusedVariables false
set_option maxHeartbeats 400000
structure Pw (f:Fd) (k W:Nat) (o:List Nat):Prop where
 len:o.length=2^k
 lt:∀ x∈o,x<f.p
 at_:∀ s j,s<k→j<2^s→lb o (2^s+j)=zo f (W^(2^(k-1-s)*j))
structure ahw (f:Fd) (n h W j:Nat) (o:List Nat):Prop where
 len:o.length=n
 lt:∀ x∈o,x<f.p
 at_:∀ i,i<j→lb o (h+i)=zo f (W^i)
theorem ahw.step {f:Fd} (hf:Good f) {n h W j:Nat} {o:List Nat} (H:ahw f n h W j o) (hj:h+j<n):ahw f n h W (j+1) (o.set (h+j) (zo f (W^j))):=by
 refine ⟨by simp [H.len],gm H.lt (Vp f hf _),fun i hi=>?_⟩
 rw [lV _ _ _ _ (by rw [H.len];exact hj)]
 by_cases e:i=j
 · subst e;rw [if_pos rfl]
 · rw [if_neg (by omega)];exact H.at_ i (by omega)
structure aa5 (f:Fd) (n h W i:Nat) (o:List Nat):Prop where
 up:ahw f n h W h o
 dn:∀ m,i<m→m<h→lb o m=lb o (2*m)
theorem aa5.step {f:Fd} {n h W i:Nat} {o:List Nat} (H:aa5 f n h W i o) (hi:0<i) (hih:i<h) (hn:n=2*h):aa5 f n h W (i-1) (o.set i (lb o (2*i))):=by
 have hl:=H.up.len
 have hlt:lb o (2*i)<f.p:=by
  have hm:lb o (2*i)∈o:=by
   unfold lb;rw [List.getElem?_eq_getElem (by omega)];exact List.getElem_mem _
  exact H.up.lt _ hm
 refine ⟨⟨by simp [hl],gm H.up.lt hlt,fun j hj=>?_⟩,fun m h1 h2=>?_⟩
 · rw [lV _ _ _ _ (by omega),if_neg (by omega)];exact H.up.at_ j hj
 · rw [lV _ _ _ _ (by omega),lV _ _ _ _ (by omega),if_neg (show ¬ i=2*m by omega)]
   by_cases e:i=m
   · rw [if_pos e,e]
   · rw [if_neg e];exact H.dn m (by omega) h2
theorem aa5.done {f:Fd} {k W:Nat} {o:List Nat} (H:aa5 f (2^(k+1)) (2^k) W 0 o):Pw f (k+1) W o:=by
 refine ⟨H.up.len,H.up.lt,fun s j hs hj=>?_⟩
 have key : ∀ d s j,s+d=k→j<2^s→lb o (2^s+j)=zo f (W^(2^d*j)):=by
  intro d
  induction d with
  | zero => intro s j hs hj;obtain rfl:s=k:=by omega
            rw [H.up.at_ j hj,Nat.pow_zero,Nat.one_mul]
  | succ d ih =>
   intro s j hs hj
   have h1:2^s+j<2^k:=by
    have:2^(s+1)≤2^k:=Nat.pow_le_pow_right (by decide) (by omega)
    rw [Nat.pow_succ] at this;omega
   rw [H.dn _ (by have:=Nat.two_pow_pos s;omega) h1,show 2*(2^s+j)=2^(s+1)+2*j by rw [Nat.pow_succ];omega,ih (s+1) (2*j) (by omega) (by rw [Nat.pow_succ];omega)]
   congr 2;rw [Nat.pow_succ,Nat.mul_assoc]
 exact key (k+1-1-s) s j (by omega) hj
theorem Pw.one (f:Fd) (hf:Good f) (W:Nat) (o:List Nat) (h:o.length=1) (hl:∀ x∈o,x<f.p):Pw f 0 W o:=⟨h,hl,fun s j hs _=>by omega⟩
end Go.Proofs.YtnilonnkcbkdmaaGreatDoor
/- Transforms by halves, downward and upward, and what they undo. -/
namespace Go.Proofs.YtnilonnkcbkdmaaGreatDoor
def Rt (p w:Int) (k:Nat):Prop:=gJ p (w^2^k) 1∧(0<k→gJ p (w^2^(k-1)) (-1))
def dft (w:Int) (n:Nat) (l:Nat→Int) (q:Nat):Int:=sm n fun i=>l i*w^(i*q)
def Down (p w:Int) (k s:Nat) (l o:Nat→Int):Prop :=
 s≤k∧∀ b t,b<2^(k-s)→t<2^s→gJ p (sm (2^s) fun j=>o (b*2^s+j)*w^(2^(k-s)*(j*t))) (dft w (2^k) l (rev (k-s) b+2^(k-s)*t))
theorem uy {p w:Int} {m:Nat} (h:gJ p (w^m) 1) (x t:Nat):gJ p (w^(x+m*t)) (w^x):=by
 have:=(gJ.refl p (w^x)).mul (pow_even h t)
 rwa [Int.mul_one,← Int.pow_add] at this
theorem Down.step {p w:Int} {k s:Nat} {l o o':Nat→Int} (hr:Rt p w k) (h:Down p w k (s+1) l o)
  (h0:∀ b j,b<2^(k-(s+1))→j<2^s→gJ p (o' (b*2^(s+1)+j)) (o (b*2^(s+1)+j)+o (b*2^(s+1)+2^s+j)))
  (h1:∀ b j,b<2^(k-(s+1))→j<2^s→gJ p (o' (b*2^(s+1)+2^s+j)) ((o (b*2^(s+1)+j)-o (b*2^(s+1)+2^s+j))*w^(2^(k-(s+1))*j))) :
  Down p w k s l o':=by
 obtain ⟨hsk,hd⟩:=h
 have ek:k-s=k-(s+1)+1:=by omega
 refine ⟨by omega,fun b t hb ht=>?_⟩
 rw [ek] at hb ⊢
 have hm:2^(k-(s+1)+1)=2*2^(k-(s+1)):=Nat.pow_succ'
 have hkk:2^(k-(s+1))*2^s*2=2^k:=by rw [← Nat.pow_add,← Nat.pow_succ];congr 1;omega
 have hone:gJ p (w^(2^(k-(s+1))*2^s*2)) 1:=by rw [hkk];exact hr.1
 have hneg:gJ p (w^(2^(k-(s+1))*2^s)) (-1):=by
  have:=hr.2 (by omega)
  rwa [show 2^(k-1)=2^(k-(s+1))*2^s by rw [← Nat.pow_add];congr 1;omega] at this
 have hs2:2^(s+1)=2*2^s:=Nat.pow_succ'
 generalize hM:2^(k-(s+1))=M at *
 rw [hm] at hb ⊢
 rcases (show b=2*(b/2)∨b=2*(b/2)+1 by omega) with e | e
 · generalize b/2=c at e
   subst e
   have g:=hd c (2*t) (by omega) (by omega)
   rw [hs2,UU] at g
   rw [Rp,show 2*M*t=M*(2*t) by rw [Nat.mul_comm 2 M,Nat.mul_assoc]]
   refine gJ.trans (gJ.sm fun j hj=>?_) g
   have a:=h0 c j (by omega) hj
   rw [hs2] at a
   rw [show 2*c*2^s+j=c*(2*2^s)+j by rw [Nat.mul_comm 2 c,Nat.mul_assoc]]
   refine (a.mul (gJ.refl p _)).trans ?_
   rw [Int.add_mul]
   refine gJ.add (gJ.of_eq (by congr 2;grind)) ?_
   rw [← Nat.add_assoc]
   refine (gJ.refl p _).mul ?_
   have:=(uy hone (M*(j*(2*t))) t).symm
   rw [show 2*M*(j*t)=M*(j*(2*t)) by grind]
   rwa [show M*(j*(2*t))+M*2^s*2*t=M*((2^s+j)*(2*t)) by grind] at this
 · generalize b/2=c at e
   subst e
   have g:=hd c (2*t+1) (by omega) (by omega)
   rw [hs2,UU] at g
   rw [XP,hM,show rev (k-(s+1)) c+M+2*M*t=rev (k-(s+1)) c+M*(2*t+1) by grind]
   refine gJ.trans (gJ.sm fun j hj=>?_) g
   have a:=h1 c j (by omega) hj
   rw [hs2] at a
   rw [show (2*c+1)*2^s+j=c*(2*2^s)+2^s+j by grind]
   refine (a.mul (gJ.refl p _)).trans ?_
   rw [Int.mul_assoc,← Int.pow_add,Int.sub_mul,Int.sub_eq_add_neg]
   refine gJ.add (gJ.of_eq (by congr 2;grind)) ?_
   rw [← Nat.add_assoc]
   have e1:gJ p (w^(M*((2^s+j)*(2*t+1)))) (-(w^(M*j+2*M*(j*t)))):=by
    rw [show M*((2^s+j)*(2*t+1))=M*2^s+(M*j+2*M*(j*t))+M*2^s*2*t by grind]
    refine (uy hone _ t).trans ?_
    rw [Int.pow_add]
    have:=hneg.mul (gJ.refl p (w^(M*j+2*M*(j*t))))
    rwa [Int.neg_mul,Int.one_mul] at this
   have:=(gJ.refl p (o (c*(2*2^s)+2^s+j))).mul e1
   rw [Int.mul_neg] at this
   exact this.symm
theorem Down.done {p w:Int} {k:Nat} {l o:Nat→Int} (h:Down p w k 0 l o) (b:Nat) (hb:b<2^k):gJ p (o b) (dft w (2^k) l (rev k b)):=by
 have:=h.2 b 0 (by simpa using hb) (by simp)
 simpa [apD] using this
def Up (p v:Int) (k s:Nat) (F o:Nat→Int):Prop :=
 s≤k∧∀ b j,b<2^(k-s)→j<2^s→gJ p (o (b*2^s+j)) (sm (2^s) fun t=>F (b*2^s+t)*v^(2^(k-s)*(j*rev s t)))
theorem Up.step {p v:Int} {k s:Nat} {F o o':Nat→Int} (hr:Rt p v k) (hsk:s+1≤k) (h:Up p v k s F o)
  (h0:∀ b j,b<2^(k-(s+1))→j<2^s→gJ p (o' (b*2^(s+1)+j)) (o (b*2^(s+1)+j)+o (b*2^(s+1)+2^s+j)*v^(2^(k-(s+1))*j)))
  (h1:∀ b j,b<2^(k-(s+1))→j<2^s→gJ p (o' (b*2^(s+1)+2^s+j)) (o (b*2^(s+1)+j)-o (b*2^(s+1)+2^s+j)*v^(2^(k-(s+1))*j))) :
  Up p v k (s+1) F o':=by
 obtain ⟨_,hd⟩:=h
 have ek:k-s=k-(s+1)+1:=by omega
 refine ⟨by omega,fun b j hb hj=>?_⟩
 rw [ek] at hd
 have hm:2^(k-(s+1)+1)=2*2^(k-(s+1)):=Nat.pow_succ'
 have hkk:2^(k-(s+1))*2^s*2=2^k:=by rw [← Nat.pow_add,← Nat.pow_succ];congr 1;omega
 have hone:gJ p (v^(2^(k-(s+1))*2^s*2)) 1:=by rw [hkk];exact hr.1
 have hneg:gJ p (v^(2^(k-(s+1))*2^s)) (-1):=by
  have:=hr.2 (by omega)
  rwa [show 2^(k-1)=2^(k-(s+1))*2^s by rw [← Nat.pow_add];congr 1;omega] at this
 have hs2:2^(s+1)=2*2^s:=Nat.pow_succ'
 generalize hM:2^(k-(s+1))=M at *
 rw [hm] at hd
 rw [hs2,UU]
 have low:∀ i,i<2^s→gJ p (o (b*(2*2^s)+i)) (sm (2^s) fun t=>F (b*(2*2^s)+t)*v^(2*M*(i*rev s t))):=fun i hi=>by
  have:=hd (2*b) i (by omega) hi
  rwa [show 2*b*2^s=b*(2*2^s) by grind] at this
 have high:∀ i,i<2^s→gJ p (o (b*(2*2^s)+2^s+i)) (sm (2^s) fun t=>F (b*(2*2^s)+2^s+t)*v^(2*M*(i*rev s t))):=fun i hi=>by
  have:=hd (2*b+1) i (by omega) hi
  rwa [show (2*b+1)*2^s=b*(2*2^s)+2^s by grind] at this
 rw [hs2] at h0 h1 hj
 by_cases hj2:j<2^s
 · refine (h0 b j hb hj2).trans ?_
   refine (gJ.add (low j hj2) ((high j hj2).mul (gJ.refl p _))).trans (gJ.of_eq ?_)
   rw [← XO,← UT]
   refine Ro fun t ht=>?_
   rw [Ov _ _ 0 ht,JS _ _ ht,Int.mul_assoc,← Int.pow_add]
   congr 1
   · congr 2;grind
   · rw [Nat.add_assoc];congr 2;grind
 · obtain ⟨i,rfl⟩:∃ i,j=2^s+i:=⟨j-2^s,by omega⟩
   have hi:i<2^s:=by omega
   have:=(h1 b i hb hi).trans (gJ.sub (low i hi) ((high i hi).mul (gJ.refl p _)))
   rw [← Nat.add_assoc]
   refine this.trans ?_
   rw [Int.sub_eq_add_neg,← Int.mul_neg,← XO,← UT]
   refine gJ.sm fun t ht=>?_
   rw [Ov _ _ 0 ht,JS _ _ ht,Int.mul_assoc]
   refine gJ.add ((gJ.refl p _).mul ?_) ?_
   · have:=(uy hone (2*M*(i*rev s t)) (rev s t)).symm
     rwa [show 2*M*(i*rev s t)+M*2^s*2*rev s t=M*((2^s+i)*(2*rev s t)) by grind] at this
   · rw [← Nat.add_assoc]
     refine (gJ.refl p _).mul ?_
     rw [show M*((2^s+i)*(2*rev s t+1))=M*2^s+(2*M*(i*rev s t)+M*i)+M*2^s*2*rev s t by grind]
     refine gJ.trans ?_ (uy hone _ _).symm
     rw [Int.pow_add v (M*2^s)]
     have:=(hneg.mul (gJ.refl p (v^(2*M*(i*rev s t)+M*i)))).symm
     rw [Int.neg_mul,Int.one_mul,Int.pow_add] at this
     rw [Int.mul_neg]
     rw [Int.pow_add]
     exact this
theorem Up.done {p v:Int} {k:Nat} {F o:Nat→Int} (h:Up p v k k F o) (j:Nat) (hj:j<2^k):gJ p (o j) (sm (2^k) fun t=>F t*v^(j*rev k t)):=by
 have:=h.2 0 j (by simp) hj
 simpa using this
end Go.Proofs.YtnilonnkcbkdmaaGreatDoor
