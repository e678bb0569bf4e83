/- Slices of 32-bit numbers: read, made by the call itself, appended to. -/
import Derived.Below
import Derived.Laws.OwnMore
import Derived.Laws.AppendOwn
import Derived.Laws.BitsAllLaws
import Derived.Laws.Bits64
import Derived.Deep.AppendLies
import Derived.Deep.Draws
import Derived.Lib.Hide
import Derived.OwnWalk
import Derived.Test.YtdpmbgomcjnohaaGreatDoorProg
import Derived.WalkKit
import Derived.ProofKit
import Derived.OpenShut
import Derived.JoinedCond
import Derived.RegionTactic
import Derived.LoopTactic
import Derived.BigQuiet
import Derived.Deep.QuietTactic
import Derived.Outline

namespace Go.Proofs.YtdpmbgomcjnohaaGreatDoor
open Go.RowKit
set_option linter.unusedVariables false
def lb (xs:List Nat) (j:Nat):Nat:=xs[j]?.getD 0
theorem dh {xs:List Nat} {p:Nat} (hp:0<p) (h:∀ x∈xs,x<p) (j:Nat):lb xs j<p:=by
 unfold lb
 by_cases hj:j<xs.length
 · rw [List.getElem?_eq_getElem hj];exact h _ (List.getElem_mem hj)
 · rw [List.getElem?_eq_none (by omega)];exact hp
theorem cK {xs:List Nat} (h:∀ x∈xs,x<4294967296) (j:Nat):lb xs j<4294967296:=dh (by decide) h j
theorem mP {xs ys:List Nat} (hl:xs.length=ys.length) (h:∀ j,j<xs.length→lb xs j=lb ys j):xs=ys:=by
 apply List.ext_getElem hl
 intro i h1 h2
 have:=h i h1
 unfold lb at this
 rwa [List.getElem?_eq_getElem h1,List.getElem?_eq_getElem h2] at this
theorem iA {xs:List Nat} {k j:Nat} (h:j<k):lb (xs.take k) j=lb xs j:=by
 unfold lb;rw [List.getElem?_take,if_pos h]
theorem Ai (xs:List Nat) (q i:Nat):lb (xs.drop q) i=lb xs (q+i):=by unfold lb;rw [List.getElem?_drop]
theorem kP {o:List Nat} {j:Nat} (x:Nat) (h:j<o.length):lb (o.set j x) j=x:=by simp [lb,h]
theorem bX {o:List Nat} {i j:Nat} (x:Nat) (h:i≠j):lb (o.set i x) j=lb o j:=by simp [lb,h]
theorem iN (o:List Nat) (i j x:Nat) (h:i<o.length):lb (o.set i x) j=if i=j then x else lb o j:=by
 by_cases e:i=j
 · subst e;rw [if_pos rfl,kP x h]
 · rw [if_neg e,bX x e]
theorem gZ (n j:Nat):lb (List.replicate n 0) j=0:=by
 unfold lb;by_cases h:j<n<;>simp [h]
theorem pz {o:List Nat} {j:Nat} (h:o.length≤j):lb o j=0:=by simp [lb,List.getElem?_eq_none h]
theorem pV (o u:List Nat) (j:Nat):lb (o++u) j=if j<o.length then lb o j else lb u (j-o.length):=by
 unfold lb;rw [List.getElem?_append];split<;>rfl
theorem dY {o:List Nat} {j x b:Nat} (h:∀ y∈o,y<b) (hx:x<b):∀ y∈o.set j x,y<b:=by
 intro y hy
 rcases List.mem_or_eq_of_mem_set hy with h1 | h1
 · exact h y h1
 · omega
theorem l5 {o:List Nat} {x b:Nat} (h:∀ y∈o,y<b) (hx:x<b):∀ y∈o++[x],y<b:=by
 intro y hy
 rcases List.mem_append.1 hy with h1 | h1
 · exact h y h1
 · obtain rfl:=List.mem_singleton.1 h1;exact hx
theorem NH {o:List Nat} {p:Nat} (h:∀ j,j<o.length→lb o j<p):∀ x∈o,x<p:=fun x hx=>by
 obtain ⟨j,hj,rfl⟩:=List.mem_iff_getElem.1 hx
 have:=h j hj
 unfold lb at this
 rwa [List.getElem?_eq_getElem hj] at this
theorem aF (a:Addr) (n:Nat):(a.add n).block=a.block:=by unfold Addr.add;split<;>rfl
theorem addr_add_add (a:Addr) (i j:Nat):(a.add i).add j=a.add (i+j):=by
 unfold Addr.add
 by_cases hi:i=0<;>by_cases hj:j=0<;>simp [hi,hj,Nat.add_assoc]
theorem iF (a:Addr):a.add 0=a:=by simp [Addr.add]
theorem DI (g j:Nat):(⟨g,0,none⟩:Addr).add j=⟨g,j,none⟩:=by unfold Addr.add;split<;>simp_all
def U (w:World) (v:Value) (xs:List Nat):Prop :=
 ∃ (A:Option Addr) (c:Nat),v = .slice A xs.length c∧(xs.length≤c∧xs.length≤9223372036854775807)∧(∀ x∈xs,x<4294967296) ∧
  (0<xs.length→∃ ad,A=some ad∧ad.block<w.heap.size∧∀ j,j<xs.length→w.cell? (ad.add j)=some (.int .u32 (lb xs j:Nat)))
theorem U.keep {w w':World} {v:Value} {xs:List Nat} (h:U w v xs) (hs:w.heap.size≤w'.heap.size) (hk:∀ p:Addr,p.block<w.heap.size→w'.cell? p=w.cell? p):U w' v xs:=by
 obtain ⟨A,c,rfl,hc,hx,hr⟩:=h
 refine ⟨A,c,rfl,hc,hx,fun h0=>?_⟩
 obtain ⟨ad,hA,hb,hcell⟩:=hr h0
 exact ⟨ad,hA,by omega,fun j hj=>(hk _ (by rw [aF];exact hb)).trans (hcell j hj)⟩
theorem U.below {w w':World} {v:Value} {xs:List Nat} (h:U w v xs) (hb:Below w.heap.size w w'):U w' v xs:=h.keep hb.size fun _ hp=>hb.cell hp
theorem U.lim {w:World} {v:Value} {xs:List Nat} (h:U w v xs):∀ x∈xs,x<4294967296:=by
 obtain ⟨A,c,rfl,hc,hx,hr⟩:=h;exact hx
theorem U.uW (w:World) (A:Option Addr) (c:Nat):U w (.slice A 0 c) []:=⟨A,c,rfl,⟨Nat.zero_le _,Nat.zero_le _⟩,by simp,fun h=>absurd h (by simp)⟩
theorem U.take {w:World} {A:Option Addr} {n c:Nat} {xs:List Nat} (h:U w (.slice A n c) xs) {k c':Nat} (hk:k≤n) (hc':k≤c'):U w (.slice A k c') (xs.take k):=by
 obtain ⟨A,c,hv,hc,hx,hr⟩:=h
 injection hv with h1 h2 h3
 subst h1 h2 h3
 have hlen:(xs.take k).length=k:=by simp;omega
 refine ⟨_,c',by rw [hlen],by omega,fun x hx'=>hx x (List.mem_of_mem_take hx'),fun h0=>?_⟩
 obtain ⟨ad,hA,hb,hcell⟩:=hr (by omega)
 refine ⟨ad,hA,hb,fun j hj=>?_⟩
 rw [hcell j (by omega),iA (by omega)]
def qy (o:List Nat):List Value:=o.map fun x=>Value.int .u32 (x:Nat)
theorem vR (o:List Nat):(qy o).length=o.length:=by simp [qy]
theorem Ah (o:List Nat) {j:Nat} (h:j<o.length):(qy o)[j]?=some (.int .u32 (lb o j:Nat)):=by
 unfold qy lb;simp [h]
theorem lS (a b:List Nat):qy (a++b)=qy a++qy b:=by simp [qy]
theorem Ut (a:List Nat) (i x:Nat):qy (a.set i x)=(qy a).set i (.int .u32 (x:Nat)):=by simp [qy,List.map_set]
theorem NI (k:Nat):qy (List.replicate k 0)=List.replicate k (.int .u32 0):=by simp [qy]
def Own (w:World) (base:Nat) (v:Value) (o:List Nat):Prop:=w.ownsRow base 67 1 v o.length (qy o)
theorem Own.xX {w:World} {base:Nat} {v:Value} {o:List Nat} (h:Own w base v o) (hx:∀ x∈o,x<4294967296) (hm:o.length≤9223372036854775807):U w v o:=by
 have h0:w.ownsRow base 67 1 v o.length (qy o):=h
 rcases h0.2 with ⟨rfl,h1⟩ | ⟨g,cap,cur,rfl,hg,hh,h1,h2,h3,h4⟩
 · refine ⟨none,0,by rw [h1],by omega,hx,fun hp=>absurd hp (by omega)⟩
 · refine ⟨_,cap,rfl,⟨h1,hm⟩,hx,fun hp=>⟨_,rfl,(h0.lt g rfl).2,fun j hj=>?_⟩⟩
   exact h0.cells (g:=g) rfl j _ (Ah o hj)
theorem Own.cell {w:World} {base g c:Nat} {o:List Nat} (h:Own w base (.slice (some ⟨g,0,none⟩) o.length c) o) {j:Nat} (hj:j<o.length):w.cell? ⟨g,j,none⟩=some (.int .u32 (lb o j:Nat)):=by
 rw [World.ownsRow.cellAt h j (by omega)];exact Ah o hj
theorem Own.frozen {w:World} {base g c:Nat} {o:List Nat} (h:Own w base (.slice (some ⟨g,0,none⟩) o.length c) o) (j:Nat):w.frozen? ⟨g,j,none⟩=false:=World.ownsRow.frozenAt h j
theorem Own.nO {w:World} {base g c:Nat} {o:List Nat} (h:Own w base (.slice (some ⟨g,0,none⟩) o.length c) o) (j x:Nat):Own (w.setCell ⟨g,j,none⟩ (.int .u32 (x:Nat))) base (.slice (some ⟨g,0,none⟩) (o.set j x).length c) (o.set j x):=by
 have:=(World.ownsRow.stored h j (.int .u32 (x:Nat))).1
 unfold Own
 rw [Ut,List.length_set]
 exact this
theorem Own.drew {w:World} {base:Nat} {v:Value} {o:List Nat} (h:Own w base v o):Own w.drew base v o:=h
theorem Own.alloc {w:World} {base:Nat} {v:Value} {o:List Nat} (h:Own w base v o) (x:Obj):Own (w.alloc x) base v o:=World.ownsRow.alloc h x
theorem Own.block {w:World} {base g n c:Nat} {o:List Nat} (h:Own w base (.slice (some ⟨g,0,none⟩) n c) o):base≤g∧g<w.heap.size:=by
 have h0:w.ownsRow base 67 1 (.slice (some ⟨g,0,none⟩) n c) o.length (qy o):=h
 exact h0.lt g rfl
theorem Own.caps {w:World} {base g n c:Nat} {o:List Nat} (h:Own w base (.slice (some ⟨g,0,none⟩) n c) o):n=o.length∧n≤c∧c≤maxLen:=by
 rcases h.2 with ⟨h1,_⟩ | ⟨g',cap,cur,h1,hg,hh,h2,h3,h4,h5⟩
 · cases h1
 · injection h1 with e1 e2 e3
   subst e2 e3
   exact ⟨rfl,h2,h3⟩
theorem Own.below {w w':World} {base B:Nat} {v:Value} {o:List Nat} (h:Own w base v o) (hB:Below B w w') (hv:∀ g,v.ownBlock=some g→g<B):Own w' base v o:=by
 refine ⟨h.1,?_⟩
 rcases h.2 with hn | ⟨g,cap,cur,rfl,hb,hgg,rest⟩
 · exact .inl hn
 · refine .inr ⟨g,cap,cur,rfl,hb,?_,rest⟩
   rw [hB.block g (hv g rfl)]
   exact hgg
theorem Own.zeros {w:World} {base g:Nat} {n:Nat} (h:w.ownsRow base 67 1 (.slice (some ⟨g,0,none⟩) n n) n (madeCells (Value.int .u32 0).cells (n*1)).toList) :
  Own w base (.slice (some ⟨g,0,none⟩) (List.replicate n 0).length n) (List.replicate n 0):=by
 have e:(madeCells (Value.int .u32 0).cells (n*1)).toList=qy (List.replicate n 0):=by
  rw [NI,Nat.mul_one];exact toList_madeCells_one _ _
 rw [e] at h
 unfold Own
 rw [List.length_replicate]
 exact h
def okV (r:Result Value):Value:=match r with | .ok v _=>v | _=>undef
def okW (w:World) (r:Result Value):World:=match r with | .ok _ w'=>w' | _=>w
def VM (P:Program) (t ty:TypeId) (s x:Value) (w:World):Prop:=∃ v w',(Builtin.append_ #[t,t] ty #[s,x]).run P w = .ok v w'
def AV (P:Program) (t ty:TypeId) (s x:Value) (w:World):Value:=okV ((Builtin.append_ #[t,t] ty #[s,x]).run P w)
def AW (P:Program) (t ty:TypeId) (s x:Value) (w:World):World:=okW w ((Builtin.append_ #[t,t] ty #[s,x]).run P w)
def XH (ts:Array TypeId) (ty:TypeId) (args:Array Value):Sem Value:=Builtin.append_ ts ty args
theorem fD (ts:Array TypeId) (ty:TypeId) (args:Array Value):Builtin.append_ ts ty args=XH ts ty args:=rfl
theorem bL {P:Program} {t ty:TypeId} {s x:Value} {w:World} (h:VM P t ty s x w) :
  (XH #[t,t] ty #[s,x]).run P w = .ok (AV P t ty s x w) (AW P t ty s x w):=by
 obtain ⟨v,w',h⟩:=h
 unfold AV AW XH
 rw [h]
 rfl
theorem eD {P:Program} {t ty:TypeId} {s x:Value} {w:World} {v:Value} {w':World} (h:(Builtin.append_ #[t,t] ty #[s,x]).run P w = .ok v w') :
  VM P t ty s x w∧AV P t ty s x w=v∧AW P t ty s x w=w':=by
 refine ⟨⟨v,w',h⟩,?_,?_⟩
 · unfold AV;rw [h];rfl
 · unfold AW;rw [h];rfl
theorem qB:(Tryz.prog.info? 67).map (fun i=>(i.zero,i.size,i.bytes))=some (some (.int .u32 0),1,4):=by kernel_rfl
theorem zO {P:Program} (w:World) (base:Nat) (t ty e:TypeId) (i:TypeInfo) (size:Nat) (ht:P.underlying t=some (.slice e)) (hi:P.info? e=some i)
  (v:Value) (n c:Nat) (xs:List Value) (hown:w.ownsRow base e size v n xs) :
  (Builtin.append_ #[t,t] ty #[v,.slice none 0 c]).run P w = .ok v w:=by
 rcases hown.2 with ⟨rfl,rfl⟩ | ⟨g,cap,cur,rfl,_,_,hnc,_⟩
 · simp [Builtin.append_,run_underlying ht,sizeOf,typeInfo,hi,Builtin.lenOf,Builtin.firstCells]
 · simp [Builtin.append_,run_underlying ht,sizeOf,typeInfo,hi,Builtin.lenOf,Builtin.firstCells,hnc,storeCells]
theorem ng (w:World) (base:Nat) (v:Value) (o:List Nat) (hown:Own w base v o) (x:Value) (ys:List Nat) (hx:U w x ys) (hlen:o.length+ys.length≤35184372088832) (hbase:base≤w.heap.size) :
  ∃ v' w',(Builtin.append_ #[22,22] 22 #[v,x]).run Tryz.prog w = .ok v' w'∧Own w' base v' (o++ys)∧w.grownBy w' v.ownBlock:=by
 obtain ⟨i0,hi,hz0,hz1,hz2⟩:=info_parts qB
 obtain ⟨A,c,rfl,⟨h1,h2⟩,hlt,hr⟩:=hx
 cases A with
 | none =>
  have h0:ys.length=0:=by
   rcases Nat.eq_zero_or_pos ys.length with h0 | h0
   · exact h0
   · obtain ⟨ad,h,_⟩:=hr h0;cases h
  obtain rfl:=List.eq_nil_of_length_eq_zero h0
  refine ⟨v,w,zO w base 22 22 67 i0 1 Tryz.underlying22 hi v _ c _ hown,by rw [List.append_nil];exact hown,World.grownBy.refl w _⟩
 | some ad =>
  have hcells:∀ j u,(qy ys)[j]?=some u→w.cell? (ad.add j)=some u:=fun j u hj=>by
   have hjl:j<ys.length:=by
    rcases Nat.lt_or_ge j ys.length with h | h
    · exact h
    · rw [List.getElem?_eq_none (by rw [vR];exact h)] at hj;cases hj
   obtain ⟨ZU,e',_,hcell⟩:=hr (by omega)
   replace e':=Option.some.inj e'
   subst e'
   rw [hcell j hjl,← Ah ys hjl,hj]
  obtain ⟨v',w',hrun,hown',hg,_⟩:=run_append_own (P:=Tryz.prog) w base 22 22 67 i0 (.int .u32 0) 1 4 Tryz.underlying22 hi hz0 hz1 hz2 rfl (by decide) v o.length (qy o) hown ad ys.length c (qy ys) (by rw [vR,Nat.mul_one]) hcells
   (by intro u hu;obtain ⟨z,_,rfl⟩:=List.mem_map.1 hu;rfl) (by unfold maxLen;omega) (by omega) hbase
  exact ⟨v',w',hrun,by unfold Own;rw [lS,List.length_append];exact hown',hg⟩
def Ext (a b:World):Prop:=Below a.heap.size a b
theorem Ext.refl (w:World):Ext w w:=Below.refl _ _
theorem Ext.alloc {a b:World} (h:Ext a b) (o:Obj):Ext a (b.alloc o):=Below.alloc h h.size o
theorem Ext.below {a b c:World} (h:Ext a b) (k:Ext b c):Ext a c:=Below.trans h (Below.mono k h.size)
theorem Ext.drew {a b:World} (h:Ext a b):Ext a b.drew:=Below.drew h
theorem U.alloc {w:World} {v:Value} {xs:List Nat} (h:U w v xs) (o:Obj):U (w.alloc o) v xs:=U.below h ((Ext.refl w).alloc o)
theorem jq (w:World) (n:Nat):Ext w (w.drewN n):=⟨rfl,rfl,rfl,Nat.le_refl _,fun _ _=>rfl⟩
theorem LP (w:World) (xs:List Nat) (hx:∀ x∈xs,x<4294967296) (hm:xs.length≤1000000):U (w.alloc (.cells (qy xs).toArray 67)) (.slice (some ⟨w.heap.size,0,none⟩) xs.length xs.length) xs:=by
 refine Own.xX (base:=w.heap.size) ?_ hx (by omega)
 have:=World.ownsRow_lit (base:=w.heap.size) (e := 67) (size:=1) w (qy xs).toArray xs.length (Nat.le_refl _) (by unfold maxLen;omega) (by simp [vR])
 simpa [Own] using this
theorem uo {k:IntKind} {a b:Int} (h:a=b):Ending.returned (.int k a) = .returned (.int k b):=by rw [h]
end Go.Proofs.YtdpmbgomcjnohaaGreatDoor
/- Lengths in bits. -/
namespace Go.Proofs.YtdpmbgomcjnohaaGreatDoor
open Go.RowKit
set_option linter.unusedVariables false
set_option maxHeartbeats 400000
def fK (n:Nat):Nat:=if n=0 then 0 else n.log2+1
theorem mo (n:Nat):n<2^fK n:=by
 unfold fK
 split
 · subst_vars;decide
 · exact Nat.lt_log2_self
theorem rP {n:Nat} (h:n≠0):2^(fK n-1)≤n:=by
 unfold fK
 rw [if_neg h,Nat.add_sub_cancel]
 exact Nat.log2_self_le h
theorem Q6 {n:Nat} (h:n≠0):0<fK n:=by unfold fK;rw [if_neg h];omega
theorem fB {n k:Nat} (h:n<2^k):fK n≤k:=by
 by_cases h0:n=0
 · subst h0;exact Nat.zero_le _
 · have h1:=Nat.lt_of_le_of_lt (rP h0) h
   have:=(Nat.pow_lt_pow_iff_right (by decide:1<2)).1 h1
   omega
theorem jQ {n k:Nat} (h:2^k≤n):k<fK n:=by
 have h1:=Nat.lt_of_le_of_lt h (mo n)
 exact (Nat.pow_lt_pow_iff_right (by decide:1<2)).1 h1
theorem UB {n k:Nat} (h1:2^k≤n) (h2:n<2^(k+1)):fK n=k+1:=by
 have:=jQ h1
 have:=fB h2
 omega
theorem qV (n k:Nat) (h:n/2^k≠0):fK n=k+fK (n/2^k):=by
 have hp:=Q6 h
 have h1:=rP h
 have h2:=mo (n/2^k)
 have hk:0<2^k:=Nat.two_pow_pos k
 have g1:2^(k+fK (n/2^k)-1)≤n:=by
  have:k+fK (n/2^k)-1=(fK (n/2^k)-1)+k:=by omega
  rw [this,Nat.pow_add]
  exact Nat.le_trans (Nat.mul_le_mul_right _ h1) (Nat.div_mul_le_self n (2^k))
 have g2:n<2^(k+fK (n/2^k)):=by
  rw [Nat.pow_add]
  exact Nat.lt_mul_of_div_lt h2 hk |> fun h=>by rwa [Nat.mul_comm] at h
 have a:=fB g2
 have b:=jQ g1
 omega
def Dq:ByteArray:=⟨((List.range 256).map fun n=>UInt8.ofNat (fK n)).toArray⟩
theorem Eo:Dq.size=256:=by decide +kernel
theorem Q7:∀ p:Fin 256,(Dq[p.val]'(by rw [Eo];exact p.isLt)).toNat=fK p.val:=by decide +kernel
theorem wu:(⟨(([0,1,2,2,3,3,3,3,4,4,4,4,4,4,4,4,5,5,5,5,5,5,5,5,5,5,5,5,5,5,5,5,6,6,6,6,6,6,6,6,6,6,6,6,6,6,6,6,6,6,6,6,6,6,6,6,6,6,6,6,6,6,6,6].append [7,7,7,7,7,7,7,7,7,7,7,7,7,7,7,7,7,7,7,7,7,7,7,7,7,7,7,7,7,7,7,7,7,7,7,7,7,7,7,7,7,7,7,7,7,7,7,7,7,7,7,7,7,7,7,7,7,7,7,7,7,7,7,7]).append ([8,8,8,8,8,8,8,8,8,8,8,8,8,8,8,8,8,8,8,8,8,8,8,8,8,8,8,8,8,8,8,8,8,8,8,8,8,8,8,8,8,8,8,8,8,8,8,8,8,8,8,8,8,8,8,8,8,8,8,8,8,8,8,8].append [8,8,8,8,8,8,8,8,8,8,8,8,8,8,8,8,8,8,8,8,8,8,8,8,8,8,8,8,8,8,8,8,8,8,8,8,8,8,8,8,8,8,8,8,8,8,8,8,8,8,8,8,8,8,8,8,8,8,8,8,8,8,8,8])).toArray⟩:ByteArray)=Dq:=by decide +kernel
theorem rG {P:Program} (t:TypeId) (ht:P.underlying t=some .string) (k:IntKind) (i:Nat) (hi:i<256) (w:World) :
  (Instr.index t (.string Dq) (.int k (i:Int))).run P w = .ok (.int .u8 (fK i:Nat)) w:=by
 rw [run_index_string w t Dq k _ ht,dif_pos ⟨by omega,by rw [Eo];omega⟩]
 have e:((i:Int)).toNat=i:=by omega
 simp only [e]
 rw [Q7 ⟨i,hi⟩]
theorem UC (w:World) (x:Nat) (h:x<256) :
  Calls Tryz.prog 168 #[.int .u32 x] w fun e w'=>e = .returned (.int .i64 (fK x:Nat))∧w=w':=by
 have h65:decide ((65536:Int)≤(x:Nat))=false:=by rw [decide_eq_false_iff_not];omega
 have Tt:decide ((256:Int)≤(x:Nat))=false:=by rw [decide_eq_false_iff_not];omega
 have HF:Hid (fK x=fK (x%256)):=by rw [Hid,Nat.mod_eq_of_lt h]
 have hI:=fun w=>rG (P:=Tryz.prog) 9 Tryz.underlying9 .u8 (x%256) (by omega) w
 have hB:=fB (n:=x%256) (k:=8) (by omega)
 have hv:((x%256:Nat):Int)=(x:Int)%256:=by omega
 rw [hv] at hI
 clear hv
 generalize fK (x%256)=b at *
 go_enter Tryz.func168,Tryz.ntmps168
 generalize hT:(ByteArray.mk _:ByteArray)=T
 have LH:T=Dq:=by rw [← hT];exact wu
 rw [← LH] at hI
 clear hT LH h
 go_wp2
 go_ret
 exact ⟨by rw [HF.out];first | rfl | exact uo (by omega),rfl⟩
theorem UD (w:World) (x:Nat) (h:256≤x) (h2:x<65536) :
  Calls Tryz.prog 168 #[.int .u32 x] w fun e w'=>e = .returned (.int .i64 (fK x:Nat))∧w=w':=by
 have h65:decide ((65536:Int)≤(x:Nat))=false:=by rw [decide_eq_false_iff_not];omega
 have Tt:decide ((256:Int)≤(x:Nat))=true:=by rw [decide_eq_true_iff];omega
 have HF:Hid (fK x=8+fK (x/256%256)):=by
  rw [Hid,Nat.mod_eq_of_lt (by omega)];exact qV x 8 (by simp only [Nat.reducePow];omega)
 have hI:=fun w=>rG (P:=Tryz.prog) 9 Tryz.underlying9 .u8 (x/256%256) (by omega) w
 have hB:=fB (n:=x/256%256) (k:=8) (by omega)
 have hv:((x/256%256:Nat):Int)=(x:Int)/256%256:=by omega
 rw [hv] at hI
 clear hv
 generalize fK (x/256%256)=b at *
 go_enter Tryz.func168,Tryz.ntmps168
 generalize hT:(ByteArray.mk _:ByteArray)=T
 have LH:T=Dq:=by rw [← hT];exact wu
 rw [← LH] at hI
 clear hT LH h h2
 go_wp2
 go_ret
 exact ⟨by rw [HF.out];first | rfl | exact uo (by omega),rfl⟩
theorem UE (w:World) (x:Nat) (h:65536≤x) (h2:x<16777216) :
  Calls Tryz.prog 168 #[.int .u32 x] w fun e w'=>e = .returned (.int .i64 (fK x:Nat))∧w=w':=by
 have h65:decide ((65536:Int)≤(x:Nat))=true:=by rw [decide_eq_true_iff];omega
 have Tt:decide ((256:Int)≤(x:Nat)/65536)=false:=by rw [decide_eq_false_iff_not];omega
 have HF:Hid (fK x=16+fK (x/65536%256)):=by
  rw [Hid,Nat.mod_eq_of_lt (by omega)];exact qV x 16 (by simp only [Nat.reducePow];omega)
 have hI:=fun w=>rG (P:=Tryz.prog) 9 Tryz.underlying9 .u8 (x/65536%256) (by omega) w
 have hB:=fB (n:=x/65536%256) (k:=8) (by omega)
 have hv:((x/65536%256:Nat):Int)=(x:Int)/65536%256:=by omega
 rw [hv] at hI
 clear hv
 generalize fK (x/65536%256)=b at *
 go_enter Tryz.func168,Tryz.ntmps168
 generalize hT:(ByteArray.mk _:ByteArray)=T
 have LH:T=Dq:=by rw [← hT];exact wu
 rw [← LH] at hI
 clear hT LH h h2
 go_wp2
 go_ret
 exact ⟨by rw [HF.out];first | rfl | exact uo (by omega),rfl⟩
theorem UF (w:World) (x:Nat) (h:16777216≤x) (h2:x<4294967296) :
  Calls Tryz.prog 168 #[.int .u32 x] w fun e w'=>e = .returned (.int .i64 (fK x:Nat))∧w=w':=by
 have h65:decide ((65536:Int)≤(x:Nat))=true:=by rw [decide_eq_true_iff];omega
 have Tt:decide ((256:Int)≤(x:Nat)/65536)=true:=by rw [decide_eq_true_iff];omega
 have HF:Hid (fK x=24+fK (x/65536/256%256)):=by
  rw [Hid,Nat.div_div_eq_div_mul,Nat.mod_eq_of_lt (by omega)];exact qV x 24 (by simp only [Nat.reducePow];omega)
 have hI:=fun w=>rG (P:=Tryz.prog) 9 Tryz.underlying9 .u8 (x/65536/256%256) (by omega) w
 have hB:=fB (n:=x/65536/256%256) (k:=8) (by omega)
 have hv:((x/65536/256%256:Nat):Int)=(x:Int)/65536/256%256:=by omega
 rw [hv] at hI
 clear hv
 generalize fK (x/65536/256%256)=b at *
 go_enter Tryz.func168,Tryz.ntmps168
 generalize hT:(ByteArray.mk _:ByteArray)=T
 have LH:T=Dq:=by rw [← hT];exact wu
 rw [← LH] at hI
 clear hT LH h h2
 go_wp2
 go_ret
 exact ⟨by rw [HF.out];first | rfl | exact uo (by omega),rfl⟩
theorem IE (w:World) (x:Nat) (h:x<4294967296) :
  Calls Tryz.prog 168 #[.int .u32 x] w fun e w'=>e = .returned (.int .i64 (fK x:Nat))∧w=w':=by
 rcases Nat.lt_or_ge x 256 with h1 | h1
 · exact UC w x h1
 · rcases Nat.lt_or_ge x 65536 with h2 | h2
   · exact UD w x h1 h2
   · rcases Nat.lt_or_ge x 16777216 with h3 | h3
     · exact UE w x h2 h3
     · exact UF w x h3 h
end Go.Proofs.YtdpmbgomcjnohaaGreatDoor
