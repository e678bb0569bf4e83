/- Base. -/
import Derived.Test.YtgcieamfidoaoaaGreatDoorGbh
set_option linter.all false
set_option maxHeartbeats 8000000
set_option maxRecDepth 100000
namespace Go.Proofs.YtgcieamfidoaoaaGreatDoor
open Pl Go.Proofs.Tryz
open Go.RowKit
structure Xt (Bs:List Nat) (w w':World):Prop where
 os:w'.os=w.os
 tape:w'.tape=w.tape
 output:w'.output=w.output
 block:∀ k,k<w.heap.size→k∉Bs→w'.heap[k]?=w.heap[k]?
 kp:Kp w w'
theorem Xt.ext {Bs:List Nat} {w w':World} (h:Ext w w'):Xt Bs w w':=⟨h.os,h.tape,h.output,fun k hk _=>h.block k hk,Kp.ext h⟩
theorem Xt.refl (Bs:List Nat) (w:World):Xt Bs w w:=Xt.ext (Ext.refl w)
theorem Xt.trans {Bs:List Nat} {a b c:World} (h:Xt Bs a b) (k:Xt Bs b c):Xt Bs a c :=
 ⟨k.os.trans h.os,k.tape.trans h.tape,k.output.trans h.output,fun i hi hn=>(k.block i (Nat.lt_of_lt_of_le hi h.kp.1) hn).trans (h.block i hi hn),h.kp.trans k.kp⟩
theorem Xt.mono {Bs Cs:List Nat} {w w':World} (h:Xt Bs w w') (hs:∀ k∈Bs,k∈Cs):Xt Cs w w':=⟨h.os,h.tape,h.output,fun k hk hn=>h.block k hk fun hb=>hn (hs k hb),h.kp⟩
theorem Xt.drop {Bs Cs:List Nat} {w w':World} (h:Xt Bs w w') (hs:∀ k∈Bs,k∈Cs∨w.heap.size≤k):Xt Cs w w':=⟨h.os,h.tape,h.output,fun k hk hn=>h.block k hk fun hb=>by
 rcases hs k hb with h1 | h1
 · exact hn h1
 · omega,h.kp⟩
theorem Xt.cb {Bs:List Nat} {w w':World} {N:Nat} {T:TypeId} {cs:List Value} (h:Xt Bs w w') (hC:Cb w N T cs) (hn:N∉Bs):Cb w' N T cs:=(h.block N hC.lt hn).trans hC
theorem Xt.put {Bs:List Nat} {w:World} {N:Nat} {T:TypeId} {cs:List Value} (hC:Cb w N T cs) (hc:∀ c∈cs,zB c) (hN:N∈Bs) (new:Array Value):Xt Bs w (w.setRow N new) :=
 ⟨by simp,by simp,by simp,fun k hk hn=>setRow_other w N k new fun e=>hn (e ▸ hN),Kp.put hC hc new⟩
def NR (X:World) (k:Nat):Prop:=∀ cs fr,X.heap[k]?≠some (.cells cs 24 fr)
theorem NR.of {X:World} {N:Nat} {T:TypeId} {cs:List Value} (h:Cb X N T cs) (hT:T ≠ 24):NR X N:=fun cs' fr e=>by rw [show X.heap[N]?=_ from h] at e;simp only [Option.some.injEq,Obj.cells.injEq] at e;exact hT e.2.1
theorem NR.out {X:World} {N:Nat} (h:X.heap.size≤N):NR X N:=fun cs' fr e=>by rw [Array.getElem?_eq_none h] at e;cases e
structure Xc (base:Nat) (Bs:List Nat) (w w':World):Prop where
 os:w'.os=w.os
 tape:w'.tape=w.tape
 output:w'.output=w.output
 block:∀ k,k<w.heap.size→k∉Bs→(k<base∨NR w k)→w'.heap[k]?=w.heap[k]?
 kp:Kp w w'
section
variable {base:Nat} {Bs Cs:List Nat} {a b c w w':World}
theorem Xc.xt (h:Xt Bs w w'):Xc base Bs w w':=⟨h.os,h.tape,h.output,fun k hk hn _=>h.block k hk hn,h.kp⟩
theorem Xc.ext (h:Ext w w'):Xc base Bs w w':=Xc.xt (Xt.ext h)
theorem Xc.refl (w:World):Xc base Bs w w:=Xc.ext (Ext.refl w)
theorem Xc.trans (h:Xc base Bs a b) (k:Xc base Bs b c):Xc base Bs a c :=
 ⟨k.os.trans h.os,k.tape.trans h.tape,k.output.trans h.output,fun i hi hn hr=>by
  have e1:=h.block i hi hn hr;refine (k.block i (Nat.lt_of_lt_of_le hi h.kp.1) hn (hr.imp id fun h2 cs fr=>?_)).trans e1;rw [e1];exact h2 cs fr,h.kp.trans k.kp⟩
theorem Xc.mono (h:Xc base Bs w w') (hs:∀ k∈Bs,k∈Cs):Xc base Cs w w':=⟨h.os,h.tape,h.output,fun k hk hn=>h.block k hk fun hb=>hn (hs k hb),h.kp⟩
theorem Xc.drop (h:Xc base Bs w w') (hs:∀ k∈Bs,k∈Cs∨w.heap.size≤k):Xc base Cs w w':=⟨h.os,h.tape,h.output,fun k hk hn=>h.block k hk fun hb=>by
 rcases hs k hb with h1 | h1
 · exact hn h1
 · omega,h.kp⟩
theorem Xc.cb {N:Nat} {T:TypeId} {cs:List Value} (h:Xc base Bs w w') (hC:Cb w N T cs) (hn:N∉Bs) (hb:N<base∨T ≠ 24):Cb w' N T cs:=(h.block N hC.lt hn (hb.imp id (NR.of hC))).trans hC
end
theorem Cb.set {w:World} {N:Nat} {T:TypeId} {cs:List Value} (h:Cb w N T cs) (j:Nat) (v:Value):Cb (w.setCell ⟨N,j,none⟩ v) N T (cs.set j v):=by unfold Cb at *;simp only [World.setCell,Array.getElem?_modify,h];simp
theorem Cb.setOther {w:World} {M:Nat} {T:TypeId} {cs:List Value} (h:Cb w M T cs) (N j:Nat) (v:Value) (hne:M≠N):Cb (w.setCell ⟨N,j,none⟩ v) M T cs:=(Below.heap_setCell w ⟨N,j,none⟩ v M hne).trans h
theorem Cb.Ja {w:World} {N:Nat} {T:TypeId} {cs:List Value} {a:Bool} (h:Cb w N T cs) {j:Nat} (hj:cs[j]?=some (.bool a)) (b:Bool):(Instr.storeAt 4 (.pointer (some ⟨N,j,none⟩)) (.bool b)).run prog w = .ok () (w.setCell ⟨N,j,none⟩ (.bool b)):=by
 have hc:=h.cellAt hj;have hf:w.frozen? ⟨N,j,none⟩=false:=by unfold Cb at h;simp [World.frozen?,h]
 clear h hj;go_simp
theorem Cb.storeU64 {w:World} {N:Nat} {T:TypeId} {cs:List Value} {a:Int} (h:Cb w N T cs) {j:Nat} (hj:cs[j]?=some (.int .u64 a)) (b:Int):(Instr.storeAt 111 (.pointer (some ⟨N,j,none⟩)) (.int .u64 b)).run prog w = .ok () (w.setCell ⟨N,j,none⟩ (.int .u64 b)):=by
 have hc:=h.cellAt hj;have hf:w.frozen? ⟨N,j,none⟩=false:=by unfold Cb at h;simp [World.frozen?,h]
 clear h hj;go_simp
theorem Xt.set {Bs:List Nat} {w:World} {N:Nat} {T:TypeId} {cs:List Value} (hC:Cb w N T cs) (hc:∀ c∈cs,zB c) (hN:N∈Bs) (j:Nat) (v:Value):Xt Bs w (w.setCell ⟨N,j,none⟩ v):=by
 refine ⟨rfl,rfl,rfl,fun k hk hn=>Below.heap_setCell w ⟨N,j,none⟩ v k fun e=>hn (e ▸ hN),by simp,fun a k e=>?_⟩;by_cases hb:a.block=N
 · exfalso;subst hb;unfold World.cell? at e;rw [show w.heap[a.block]?=_ from hC] at e;simp at e;exact hc _ (List.mem_of_getElem? e.2) k rfl
 · rw [World.cell?_setCell_other _ _ _ _ (fun e=>hb (by rw [← e]))];exact e
theorem Cb.kv {w:World} {N:Nat} {T:TypeId} {v:Value} (h:Cb w N T [v]) (A:Option Addr) (n c:Nat):(Instr.storeAt 24 (A0a N) (.slice A n c)).run prog w = .ok () (w.setCell ⟨N,0,none⟩ (.slice A n c)):=by
 have hc:=h.cell;have hf:w.frozen? ⟨N,0,none⟩=false:=by unfold Cb at h;simp [World.frozen?,h]
 clear h;go_simp
theorem Cb.MB {w:World} {N:Nat} {T:TypeId} {v:Value} (h:Cb w N T [v]) (z:Int):(Instr.storeAt 3 (A0a N) (.int .i64 z)).run prog w = .ok () (w.setCell ⟨N,0,none⟩ (.int .i64 z)):=by
 have hc:=h.cell;have hf:w.frozen? ⟨N,0,none⟩=false:=by unfold Cb at h;simp [World.frozen?,h]
 clear h;go_simp
theorem iJ (A:Option Addr) (n c:Nat):∀ u∈[Value.slice A n c],zB u:=by intro u hu k e;rw [List.mem_singleton] at hu;rw [hu] at e;cases e
theorem Dw (z:Int):∀ u∈[Value.int .i64 z],zB u:=by intro u hu k e;rw [List.mem_singleton] at hu;rw [hu] at e;cases e
theorem Cb.func {w:World} {N:Nat} {T:TypeId} {f:Fn} {a b:Array Value} (h:Cb w N T [.func f a b]):(Instr.loadAt 177 (A0a N)).run prog w = .ok (.func f a b) w:=by have hc:=h.cell;clear h;go_simp
theorem aja (u:Array Value) (X:World):(callFunc 181 u).run prog X = .ok (.enter 181 u) X:=Pl.enters func181 (by kernel_rfl) rfl u X
theorem OC (w:World) (q:Nat) (hq:q<18446744073709551616) (f:FuncId) (fs cap:List Value) (N1 N2:Nat) (T1 T2:TypeId) (s:Int) (base:Nat) (Bs:List Nat) (I:World→Prop) (zL:T2 ≠ 24) (hT1:T1 ≠ 24) (h1:Cb w N1 T1 [.func (.func f) fs.toArray cap.toArray]) (h2:Cb w N2 T2 [.int .i64 s]) (hs : -1000000000≤s+1∧s+1≤1000000000) (b1:N1∉Bs) (b2:N2∉Bs) (hen:∀ (u:Array Value) X,(callFunc f u).run prog X = .ok (.enter f u) X) (ht:∀ X v,Ext w X→Un X v q→Calls prog f (fs++([v]++cap)).toArray X fun e w'=>e = .returned (.tuple #[])∧I w'∧Xc base Bs X w') (hI:∀ X Y,I X→Xt [N2] X Y→NR X N2→I Y) :Calls prog 217 #[.int .u64 (q:Int),A0a N1,A0a N2] w fun e w'=>e = .returned (.tuple #[])∧I w'∧Cb w' N2 T2 [.int .i64 (s+1)]∧Xc base (N2::Bs) w w':=by refine d9 (n:=10) (vs:=[.int .u64 (q:Int),A0a N1,A0a N2]) func217 rfl (by kernel_rfl) (by simp)<|bu<|qc (S:=fun X=>Cb X N1 T1 [.func (.func f) fs.toArray cap.toArray]) [(true,0,0),(true,1,1),(false,2,3),(false,3,7)] fo gY (by kernel_rfl) (Cb.ext h1 (Ext.drew (Ext.refl w))) ?_;have hB1:=Ext.drew (Ext.refl w);generalize w.drew=w1 at *;intro hS1;refine jo hS1 rfl rfl rfl rfl rfl (fun X hX=>Cb.func hX)<|aZ hS1 rfl<|dQ rfl rfl rfl rfl rfl aja<|Calls.mono (of_B _ (q:Int) (by omega) (by omega) q (by omega)) ?_;rintro e w2 ⟨v,rfl,hv,hB2⟩;refine ⟨_,rfl,Cb.ext hS1 hB2,?_⟩;refine iT rfl rfl rfl rfl rfl rfl hen<|Calls.mono (ht _ v (hB1.below hB2) hv) ?_;rintro e w3 ⟨rfl,nJ,hX3⟩;refine ⟨_,rfl,hX3.cb (Cb.ext hS1 hB2) b1 (.inr hT1),?_⟩;refine aT ?_;have k2:=hX3.cb (Cb.ext h2 (hB1.below hB2)) b2 (.inr zL);have x3:Xc base (N2::Bs) w w3:=(Xc.ext (hB1.below hB2)).trans (hX3.mono fun k hk=>List.mem_cons_of_mem _ hk);refine ed (by kernel_rfl)<|bH trivial rfl rfl rfl rfl rfl (Cb.int k2)<|bK (v:=.int .i64 (s+1)) trivial rfl rfl rfl rfl rfl rfl (fun X=>Gs rfl hs.1 hs.2 X) ?_;have s3:=Cb.MB k2 (s+1);have x4:=Xt.set (Bs:=[N2]) k2 (Dw _) (by simp) 0 (.int .i64 (s+1));have p3:=Cb.set k2 0 (.int .i64 (s+1));generalize w3.setCell ⟨N2,0,none⟩ (.int .i64 (s+1))=w4 at *;exact gz rfl rfl rfl rfl rfl rfl s3 trivial<|aT<|uB rfl ⟨rfl,hI _ _ nJ x4 (NR.of k2 zL),p3,x3.trans (Xc.xt (x4.mono (by simp)))⟩
def quo (a b:Nat):List Nat:=if h:b=0 then [] else (a/b)::quo b (a%b)
termination_by b
decreasing_by exact Nat.mod_lt _ (Nat.pos_of_ne_zero h)
theorem Gd (a:Nat):quo a 0=[]:=by rw [quo];simp
theorem yz {a b:Nat} (h:b≠0):quo a b=(a/b)::quo b (a%b):=by rw [quo];simp [h]
theorem WO {a b q r:Nat} (h:a=q*b+r) (hr:r<b):quo a b=q::quo b r:=by
 have hb:b≠0:=by omega
 have hq:a/b=q:=by rw [h,Nat.mul_comm q b,Nat.mul_add_div (Nat.pos_of_ne_zero hb),Nat.div_eq_of_lt hr,Nat.add_zero]
 have hm:a%b=r:=by rw [h,Nat.mul_comm q b,Nat.mul_add_mod,Nat.mod_eq_of_lt hr]
 rw [yz hb,hq,hm]
def cs:List Nat→Nat→Nat→Nat × Nat
 | [],p,q=>(p,q)
 | k::l,p,q=>cs l q (p+k*q)
theorem SK (l m:List Nat) (p q:Nat):cs (l++m) p q=cs m (cs l p q).1 (cs l p q).2:=by
 induction l generalizing p q with
 | nil=>rfl
 | cons k l ih=>exact ih _ _
def TN (e:Bool) (z:Int):Int:=if e then z else -z
def Ih (e:Bool) (a b u v:Nat):Int:=TN e ((u:Int)*a-(v:Int)*b)
theorem Gz (e:Bool) (a b u1 v1 u2 v2 h:Nat):Ih e a b (u1+h*u2) (v1+h*v2)=Ih e a b u1 v1-h*Ih (!e) a b u2 v2:=by
 have e1:((u1+h*u2:Nat):Int)*a=u1*a+h*(u2*a):=by rw [Int.natCast_add,Int.natCast_mul,Int.add_mul,Int.mul_assoc]
 have e2:((v1+h*v2:Nat):Int)*b=v1*b+h*(v2*b):=by rw [Int.natCast_add,Int.natCast_mul,Int.add_mul,Int.mul_assoc]
 cases e
 · simp only [Ih,TN,Bool.not_false,if_true,Bool.false_eq_true,if_false];rw [e1,e2,Int.mul_sub];omega
 · simp only [Ih,TN,Bool.not_true,if_true,Bool.false_eq_true,if_false];rw [e1,e2,Int.mul_neg,Int.mul_sub];omega
structure Gu (A B:Nat) (e:Bool) (u1 v1 u2 v2 x y:Nat):Prop where
 hx:(x:Int)=Ih e A B u1 v1
 hy:(y:Int)=Ih (!e) A B u2 v2
 Yf:u2≤v2
 pos:1≤v2
 le1:u1≤v1∨(e=true∧u1=1∧v1=0∧u2=0)
 sum:v2*x+v1*y=A
 le:y≤x
 grow:v1≤v2
theorem Gu.first {A B:Nat} (h:B≤A):Gu A B true 1 0 0 1 A B :=
 ⟨by simp [Ih,TN],by simp [Ih,TN],by omega,by omega,.inr ⟨rfl,rfl,rfl,rfl⟩,by omega,h,by omega⟩
theorem Gu.sure {A B a b T a0 b0 u1 v1 u2 v2 x y:Nat} {e:Bool} (h:Gu A B e u1 v1 u2 v2 x y) (ha:a=A*T+a0) (hb:b=B*T+b0) (h0:a0<T) (h1:b0<T) (c1:v2≤y) (c2:v1+v2≤x-y) :0≤Ih (!e) a b u2 v2∧Ih (!e) a b u2 v2<Ih e a b u1 v1:=by
 obtain ⟨hx,hy,Yf,pos,le1,_,le,_⟩:=h;have ea:∀ u:Nat,(u:Int)*a=u*A*T+u*a0:=fun u=>by rw [ha,Int.natCast_add,Int.natCast_mul,Int.mul_add,Int.mul_assoc]
 have eb:∀ v:Nat,(v:Int)*b=v*B*T+v*b0:=fun v=>by rw [hb,Int.natCast_add,Int.natCast_mul,Int.mul_add,Int.mul_assoc]
 have hyT:(y:Int)*T≥v2*T:=Int.mul_le_mul_of_nonneg_right (by omega) (by omega);have ZR:((x:Int)-y)*T≥(v1+v2)*T:=Int.mul_le_mul_of_nonneg_right (by omega) (by omega);have p2:(u2:Int)*a0≤v2*T:=Int.mul_le_mul (by omega) (by omega) (by omega) (by omega);have p3:(v2:Int)*b0≤v2*T:=Int.mul_le_mul_of_nonneg_left (by omega) (by omega);have p4:((v1:Int)+v2)*b0<(v1+v2)*T:=Int.mul_lt_mul_of_pos_left (by omega) (by omega);have n1:(0:Int)≤u1*a0:=Int.mul_nonneg (by omega) (by omega);have n2:(0:Int)≤u2*a0:=Int.mul_nonneg (by omega) (by omega);have n3:(0:Int)≤v1*b0:=Int.mul_nonneg (by omega) (by omega);have n4:(0:Int)≤v2*b0:=Int.mul_nonneg (by omega) (by omega);cases e
 · have hle:u1≤v1:=by
    rcases le1 with h | ⟨h,_⟩
    · exact h
    · cases h
   have p5:((u1:Int)+u2)*a0≤(v1+v2)*a0:=Int.mul_le_mul_of_nonneg_right (by omega) (by omega);have p6:((v1:Int)+v2)*a0<(v1+v2)*T:=Int.mul_lt_mul_of_pos_left (by omega) (by omega);simp only [Ih,TN,Bool.not_false,if_true,Bool.false_eq_true,if_false] at hx hy ⊢;rw [ea,ea,eb,eb];have hxT:(x:Int)*T=v1*B*T-u1*A*T:=(by rw [hx,Int.neg_sub,Int.sub_mul]);have WQ:(y:Int)*T=u2*A*T-v2*B*T:=(by rw [hy,Int.sub_mul]);rw [Int.sub_mul,hxT,WQ] at ZR;rw [WQ] at hyT;rw [Int.add_mul] at p5 p6 ZR p4;rw [Int.add_mul] at p5;rw [Int.add_mul] at p6 p4;generalize (u1:Int)*A*T=z1 at *;generalize (u2:Int)*A*T=z2 at *;generalize (v1:Int)*B*T=z3 at *;generalize (v2:Int)*B*T=z4 at *;generalize (u1:Int)*a0=z5 at *;generalize (u2:Int)*a0=z6 at *;generalize (v1:Int)*b0=z7 at *;generalize (v2:Int)*b0=z8 at *;generalize (v1:Int)*T=z9 at *;generalize (v2:Int)*T=z10 at *;generalize (v1:Int)*a0=z11 at *;generalize (v2:Int)*a0=z12 at *;omega
 · simp only [Ih,TN,Bool.not_true,if_true,Bool.false_eq_true,if_false] at hx hy ⊢;rw [ea,ea,eb,eb];have hxT:(x:Int)*T=u1*A*T-v1*B*T:=(by rw [hx,Int.sub_mul]);have WQ:(y:Int)*T=v2*B*T-u2*A*T:=(by rw [hy,Int.neg_sub,Int.sub_mul]);rw [Int.sub_mul,hxT,WQ] at ZR;rw [WQ] at hyT;rw [Int.add_mul] at p4 ZR;rw [Int.add_mul] at p4;generalize (u1:Int)*A*T=z1 at *;generalize (u2:Int)*A*T=z2 at *;generalize (v1:Int)*B*T=z3 at *;generalize (v2:Int)*B*T=z4 at *;generalize (u1:Int)*a0=z5 at *;generalize (u2:Int)*a0=z6 at *;generalize (v1:Int)*b0=z7 at *;generalize (v2:Int)*b0=z8 at *;generalize (v1:Int)*T=z9 at *;generalize (v2:Int)*T=z10 at *;omega
theorem Gu.next {A B u1 v1 u2 v2 x y:Nat} {e:Bool} (h:Gu A B e u1 v1 u2 v2 x y) (c1:v2≤y):Gu A B (!e) u2 v2 (u1+x/y*u2) (v1+x/y*v2) y (x%y):=by
 obtain ⟨hx,hy,Yf,pos,le1,sum,le,grow⟩:=h;have hy0:0<y:=by omega
 have hq:1≤x/y:=(Nat.one_le_div_iff hy0).2 le;have hd:=Nat.div_add_mod x y;have hm:=Nat.mod_lt x hy0;have p1:x/y*u2≤x/y*v2:=Nat.mul_le_mul_left _ Yf;have p2:1*v2≤x/y*v2:=Nat.mul_le_mul_right _ hq;refine ⟨hy,?_,?_,by omega,.inl Yf,?_,by omega,by omega⟩
 · rw [Bool.not_not,Gz,← hx,← hy];have:(x:Int)=(y:Int)*((x/y:Nat):Int)+((x%y:Nat):Int):=(by rw [← Int.natCast_mul,← Int.natCast_add,hd]);rw [Int.mul_comm (y:Int)] at this;omega
 · rcases le1 with h | ⟨_,h1,h2,h3⟩
   · omega
   · subst h1 h2 h3;omega
 · calc (v1+x/y*v2)*y+v2*(x%y)=v2*(y*(x/y)+x%y)+v1*y:=by
         rw [Nat.add_mul,Nat.mul_add,Nat.mul_comm (x/y) v2,Nat.mul_assoc,Nat.mul_comm (x/y) y];omega
    _=A:=by rw [hd];exact sum
theorem Gu.small {A B u1 v1 u2 v2 x y:Nat} {e:Bool} (h:Gu A B e u1 v1 u2 v2 x y) (hA:A<18446744073709551616) (c1:v2≤y) (c2:v1+v2≤x-y) :v2<4294967296∧v1+v2≤A∧x≤A∧v1+x/y*v2≤A:=by
 have h':=h.next c1;obtain ⟨hx,hy,Yf,pos,le1,sum,le,grow⟩:=h;have p1:v2*v2≤v2*x:=Nat.mul_le_mul_left _ (by omega);have p2:1*x≤v2*x:=Nat.mul_le_mul_right _ pos;have p3:=h'.sum;have p4:(v1+x/y*v2)*1≤(v1+x/y*v2)*y:=Nat.mul_le_mul_left _ (by omega);refine ⟨?_,by omega,by omega,by omega⟩;rcases Nat.lt_or_ge v2 4294967296 with h | h
 · exact h
 · have:=Nat.mul_le_mul h h;omega
theorem ZT (x y:Nat):Nat.gcd y (x%y)=Nat.gcd x y:=by rw [Nat.gcd_comm x y,Nat.gcd_rec y x,Nat.gcd_comm]
theorem QN (l:List Nat) (k p q:Nat):cs (l++[k]) p q=((cs l p q).2,(cs l p q).1+k*(cs l p q).2):=by rw [SK];rfl
structure Tl (a b:Nat) (l:List Nat) (e:Bool) (u0 u1 v0 v1 P Q:Nat):Prop where
 told:quo a b=l++quo P Q
 us:cs l 1 0=(u0,u1)
 vs:cs l 0 1=(v0,v1)
 par:e=decide (l.length%2=0)
 hP:(P:Int)=Ih e a b u0 v0
 hQ:(Q:Int)=Ih (!e) a b u1 v1
 sum:v1*P+v0*Q=a
 gcd:Nat.gcd P Q=Nat.gcd a b
 qle:Q≤b∧(l≠[]→Q<b)
 ple:P≤max a b
theorem Tl.first (a b:Nat):Tl a b [] true 1 0 0 1 a b:=⟨rfl,rfl,rfl,rfl,by simp [Ih,TN],by simp [Ih,TN],by omega,rfl,⟨Nat.le_refl _,fun h=>absurd rfl h⟩,by omega⟩
theorem Tl.snoc {a b:Nat} {l:List Nat} {e:Bool} {u0 u1 v0 v1 P Q:Nat} (h:Tl a b l e u0 u1 v0 v1 P Q) {q R:Nat} (hq:P=q*Q+R) (hR:R<Q):Tl a b (l++[q]) (!e) u1 (u0+q*u1) v1 (v0+q*v1) Q R:=by
 obtain ⟨told,us,vs,par,hP,hQ,sum,acU,an8,an9⟩:=h
 have hp:(!e)=decide ((l++[q]).length%2=0):=by
  rw [List.length_append,List.length_singleton,par];rcases Nat.mod_two_eq_zero_or_one l.length with h2 | h2
  · have h4:(l.length+1)%2=1:=(by omega);simp only [h2,h4];rfl
  · have h4:(l.length+1)%2=0:=(by omega);simp only [h2,h4];rfl
 refine ⟨?_,?_,?_,hp,hQ,?_,?_,?_,⟨by omega,fun _=>by omega⟩,by omega⟩
 · rw [told,WO hq hR,List.append_assoc];rfl
 · rw [QN,us]
 · rw [QN,vs]
 · rw [Bool.not_not,Gz,← hP,← hQ];have:(P:Int)=(q:Int)*(Q:Int)+(R:Int):=(by rw [hq,Int.natCast_add,Int.natCast_mul]);omega
 · rw [← sum,hq,Nat.add_mul,Nat.mul_add,Nat.mul_comm q v1,Nat.mul_assoc];omega
 · rw [← acU,← ZT P Q,show P%Q=R from by rw [hq,Nat.mul_comm q Q,Nat.mul_add_mod,Nat.mod_eq_of_lt hR]]
structure Gh (a b A B:Nat) (l:List Nat) (e:Bool) (u0 u1 u2 v0 v1 v2 held x y:Nat):Prop where
 tl:∃ P Q,Tl a b l e u0 u1 v0 v1 P Q
 hu:u2=u0+held*u1
 hv:v2=v0+held*v1
 gu:Gu A B (!e) u1 v1 u2 v2 x y
 b0:u0<4294967296∧v0<4294967296
 b1:u1<4294967296∧v1<4294967296
 one:1≤v1
 z:l≠[]→1≤v0
theorem Gh.first {a b A B T a0 b0:Nat} (hAB:B≤A) (hA:A<18446744073709551616) (c1:1≤B) (c2:1≤A-B):Gh a b A B [] true 1 0 (1+A/B*0) 0 1 (0+A/B*1) (A/B) B (A%B):=by have h:=Gu.first hAB;exact ⟨⟨a,b,Tl.first a b⟩,by omega,by omega,h.next c1,by omega,by omega,by omega,fun h=>absurd rfl h⟩
theorem Gh.next {a b A B T a0 b0:Nat} {l:List Nat} {e:Bool} {u0 u1 u2 v0 v1 v2 held x y:Nat} (h:Gh a b A B l e u0 u1 u2 v0 v1 v2 held x y) (ha:a=A*T+a0) (hb:b=B*T+b0) (h0:a0<T) (h1:b0<T) (hA:A<18446744073709551616) (c1:v2≤y) (c2:v1+v2≤x-y):Gh a b A B (l++[held]) (!e) u1 u2 (u1+x/y*u2) v1 v2 (v1+x/y*v2) (x/y) y (x%y):=by
 obtain ⟨⟨P,Q,tl⟩,hu,hv,gu,b0',b1,one,z⟩:=h;have hs:=gu.sure ha hb h0 h1 c1 c2;have hm:=gu.small hA c1 c2;have hn:=gu.next c1;rw [Bool.not_not] at hs;have hR:Ih e a b u2 v2=(P:Int)-held*Q:=by rw [hu,hv,Gz,← tl.hP,← tl.hQ]
 rw [hR,← tl.hQ] at hs;obtain ⟨R,hr⟩:∃ R:Nat,(R:Int)=(P:Int)-held*Q:=⟨((P:Int)-held*Q).toNat,Int.toNat_of_nonneg hs.1⟩;rw [← hr] at hs
 have hPQ:P=held*Q+R:=by
  have:(P:Int)=((held*Q+R:Nat):Int):=by rw [Int.natCast_add,Int.natCast_mul];omega
  omega
 have t2:=tl.snoc hPQ (by omega);rw [← hu,← hv] at t2;have l2:=gu.Yf;exact ⟨⟨Q,R,t2⟩,rfl,rfl,hn,b1,by omega,by have:=gu.pos;omega,fun _=>one⟩
theorem Gh.none {a b A B:Nat} {l:List Nat} {e:Bool} {u0 u1 u2 v0 v1 v2 held x y:Nat} (h:Gh a b A B l e u0 u1 u2 v0 v1 v2 held x y):v0=0↔l=[]:=by
 constructor
 · intro hv;cases l with
   | nil=>rfl
   | cons k l=>have:=h.z (by simp);omega
 · rintro rfl;obtain ⟨_,_,tl⟩:=h.tl;have:=tl.vs;exact (Prod.mk.inj this).1.symm
