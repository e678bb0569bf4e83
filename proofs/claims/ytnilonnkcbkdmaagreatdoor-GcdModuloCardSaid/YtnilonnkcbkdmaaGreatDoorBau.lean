/- The leading bits of both numbers. -/
import Derived.Test.YtnilonnkcbkdmaaGreatDoorBat
import Derived.Test.YtnilonnkcbkdmaaGreatDoorBar

namespace Go.Proofs.YtnilonnkcbkdmaaGreatDoor
open Go.RowKit
set_option linter.all false
set_option maxRecDepth 100000
set_option maxHeartbeats 8000000
namespace EQM
set_option linter.all false
set_option maxRecDepth 100000
set_option maxHeartbeats 8000000
theorem avS (u:Array Value) (X:World):(callFunc 140 u).run Tryz.prog X = .ok (.enter 140 u) X:=Pl.enters Tryz.func140 (by kernel_rfl) rfl u X
theorem ak5 (u:Array Value) (X:World):(callFunc 141 u).run Tryz.prog X = .ok (.enter 141 u) X:=Pl.enters Tryz.func141 (by kernel_rfl) rfl u X
end EQM
open EQM
theorem UI (w:World) (z:Int):∃ w1 w',(Instr.alloc 3 true (.tuple #[])).run Tryz.prog w = .ok (.pointer (some ⟨w.heap.size,0,none⟩)) w1∧Ext w w1 ∧
  (Instr.storeAt 3 (.pointer (some ⟨w.heap.size,0,none⟩)) (.int .i64 z)).run Tryz.prog w1 = .ok () w'∧Ext w w'∧Cb w' w.heap.size 3 [.int .i64 z]:=by
 refine ⟨w.alloc (.cells #[.int .i64 0] 3),w.alloc (.cells #[.int .i64 z] 3),?_,(Ext.refl w).alloc _,?_,(Ext.refl w).alloc _,Cb.new w _ _⟩
 · go_simp
 · go_simp
theorem agm {L:List Oper} {S:World→Prop} {K:List (Nat × Value)→World→Prop} {i j m1 m2 d:Nat} {o1 o2:Oper} {x:Operand} {r:List (Bool × Nat × Nat)} {l:List (Nat × Value)} {w:World} {z:Int}
  (ho1:Pl.nth L i=some o1) (hp1:o1.op = .alloc 3) (hd1:o1.dst=some d) (hg1:o1.guard=none)
  (ho2:Pl.nth L j=some o2) (hp2:o2.op = .store 3 (.tmp d) x) (hd2:o2.dst=none) (hg2:o2.guard=none)
  (hx:∀ p,Pl.ig ((d,p)::l) x=some (.int .i64 z)) (hS:∀ Y,Ext w Y→S Y)
  (h:∀ N w',Ext w w'→Cb w' N 3 [.int .i64 z]→Pl.gY Tryz.prog L S K r ((d,.pointer (some ⟨N,0,none⟩))::l) w'):Pl.gY Tryz.prog L S K ((false,i,m1)::(false,j,m2)::r) l w:=by
 obtain ⟨w1,w',h1,e1,h2,e2,hI⟩:=UI w z
 refine Pl.JC ho1 hp1 hd1 (by rw [hg1];rfl) h1 (hS _ e1) ?_
 refine Pl.bT ho2 hp2 hd2 (by rw [hg2];rfl) ?_ (hx _) h2 (hS _ e2) (h _ _ e2 hI)
 exact aah _ _ _
theorem agn (w:World) (N M:Nat) (T R:TypeId) (v:Value) (m n by':Nat) (hu:U w v (limbs m)) (hN:Cb w N T [.int .i64 (n:Int)]) (hM:Cb w M R [.int .i64 (by':Int)]) (hn:3≤n∧n≤1000000) (hby:by'≤32)
  (hm:m<4294967296^n) (hf:m/2^(32*(n-3)+(32-by'))<18446744073709551616) :
  Calls Tryz.prog 141 #[v,.pointer (some ⟨N,0,none⟩),.pointer (some ⟨M,0,none⟩)] w fun e w'=>e = .returned (.int .u64 (m/2^(32*(n-3)+(32-by')):Nat))∧Ext w w':=by
 have e:=agl hn.1 hm hby
 rw [← e] at hf ⊢
 exact UF w N M T R v (limbs m) n by' hu hN hM hn ⟨hby,by decide⟩ (Nat.lt_of_le_of_lt (Nat.le_add_right _ _) hf) hf
theorem UJ (w:World) (va vb:Value) (a b:Nat) (ha:Un w va a) (hb:Un w vb b) (hn:3≤(limbs a).length∧(limbs a).length≤1000000) (hba:b≤a) :
  Calls Tryz.prog 107 #[va,vb] w fun e w'=>e = .returned (.tuple #[.int .u64 (a/2^(32*((limbs a).length-3)+(32-(32-bS (lb (limbs a) ((limbs a).length-1))))):Nat),.int .u64 (b/2^(32*((limbs a).length-3)+(32-(32-bS (lb (limbs a) ((limbs a).length-1))))):Nat)])∧Ext w w':=by
 have hx:=mD a
 have hma:a<4294967296^(limbs a).length:=bO (Nat.le_refl _)
 have hmb:b<4294967296^(limbs a).length:=Nat.lt_of_le_of_lt hba hma
 have hfa:=En hn.1 rfl (Nat.le_refl a)
 have hfb:=En hn.1 rfl hba
 refine Pl.aV (n:=24) (vs:=[va,vb]) Tryz.func107 rfl (by kernel_rfl) (by simp) ?_
 refine Pl.az ?_
 refine Pl.ay (by kernel_rfl) ?_
 refine Pl.aj trivial rfl rfl rfl rfl rfl ?_
 refine Pl.aj trivial rfl rfl rfl rfl rfl ?_
 refine Pl.ak ?_
 refine Pl.az ?_
 refine Pl.ay (by kernel_rfl) ?_
 refine Pl.ah trivial rfl rfl rfl rfl rfl ?_
 obtain ⟨A,c,rfl,-⟩:=Un.sh ha
 refine bG trivial rfl rfl rfl rfl rfl ?_
 refine agm rfl rfl rfl rfl rfl rfl rfl rfl (fun _=>rfl) (fun _ _=>trivial) ?_
 intro N1 w1 hB1 ib1
 refine Pl.ak ?_
 refine Pl.az ?_
 refine Pl.ay (by kernel_rfl) ?_
 refine Pl.ah trivial rfl rfl rfl rfl rfl ?_
 refine Pl.aH trivial rfl rfl rfl rfl rfl (Cb.int ib1) ?_
 refine Pl.aI (v:=(.int .i64 (((limbs a).length-1:Nat):Int))) trivial rfl rfl rfl rfl rfl rfl (fun X=>j6 (by omega) (by omega) (by omega) X) ?_
 have XG:=U.below ha hB1
 obtain ⟨p_2,aA4,hl_2⟩:=U.at XG (show (limbs a).length-1<(limbs a).length by omega)
 refine aP trivial rfl rfl rfl rfl rfl rfl aA4 ?_
 refine Pl.aH trivial rfl rfl rfl rfl rfl (hl_2 _ (Ext.refl _)) ?_
 refine Pl.aA rfl rfl rfl rfl rfl avS ?_
 refine Calls.mono (UH _ (lb (limbs a) ((limbs a).length-1)) (aQ hx ((limbs a).length-1))) ?_
 rintro e w2 ⟨rfl,hB2⟩
 refine ⟨_,rfl,trivial,?_⟩
 refine agm rfl rfl rfl rfl rfl rfl rfl rfl (fun _=>rfl) (fun _ _=>trivial) ?_
 intro N3 w3 hB3 ib3
 refine Pl.ak ?_
 refine Pl.az ?_
 refine Pl.ay (by kernel_rfl) ?_
 refine Pl.oJ trivial rfl rfl rfl rfl rfl rfl ?_
 refine Pl.aj trivial rfl rfl rfl rfl rfl ?_
 refine Pl.ak ?_
 refine Pl.az ?_
 refine Pl.ay (by kernel_rfl) ?_
 refine Pl.ah trivial rfl rfl rfl rfl rfl ?_
 refine Pl.ah trivial rfl rfl rfl rfl rfl ?_
 have avT:=U.below XG (Ext.below hB2 hB3)
 have JI:=Cb.ext ib1 (Ext.below hB2 hB3)
 refine Pl.iB rfl rfl rfl rfl rfl rfl ak5 ?_
 refine Calls.mono (agn _ N1 N3 _ _ _ a (limbs a).length (32-bS (lb (limbs a) ((limbs a).length-1))) avT JI ib3 hn (Nat.sub_le _ _) hma hfa) ?_
 rintro e w4 ⟨rfl,hB4⟩
 refine ⟨_,rfl,trivial,?_⟩
 refine Pl.ah trivial rfl rfl rfl rfl rfl ?_
 refine Pl.ah trivial rfl rfl rfl rfl rfl ?_
 have avU:=U.below hb (Ext.below hB1 (Ext.below hB2 (Ext.below hB3 hB4)))
 have UG:=Cb.ext JI hB4
 have apr:=Cb.ext ib3 hB4
 refine Pl.iB rfl rfl rfl rfl rfl rfl ak5 ?_
 refine Calls.mono (agn _ N1 N3 _ _ _ b (limbs a).length (32-bS (lb (limbs a) ((limbs a).length-1))) avU UG apr hn (Nat.sub_le _ _) hmb hfb) ?_
 rintro e w5 ⟨rfl,bH⟩
 refine ⟨_,rfl,trivial,?_⟩
 refine Pl.aj trivial rfl rfl rfl rfl rfl ?_
 refine Pl.aj trivial rfl rfl rfl rfl rfl ?_
 refine Pl.ak ?_
 refine Pl.iV rfl rfl rfl ?_
 exact ⟨rfl,(Ext.below hB1 (Ext.below hB2 (Ext.below hB3 (Ext.below hB4 bH))))⟩
end Go.Proofs.YtnilonnkcbkdmaaGreatDoor
/- One of Euclid's steps on the sizes of cofactors. -/
namespace Go.Proofs.YtnilonnkcbkdmaaGreatDoor
open Go.RowKit
set_option linter.all false
set_option maxRecDepth 100000
set_option maxHeartbeats 8000000
namespace EQN
set_option linter.all false
set_option maxRecDepth 100000
set_option maxHeartbeats 8000000
theorem aA5 (u:Array Value) (X:World):(callFunc 63 u).run Tryz.prog X = .ok (.enter 63 u) X:=Pl.enters Tryz.func63 (by kernel_rfl) rfl u X
theorem aA6 (u:Array Value) (X:World):(callFunc 94 u).run Tryz.prog X = .ok (.enter 94 u) X:=Pl.enters Tryz.func94 (by kernel_rfl) rfl u X
end EQN
open EQN
theorem MJ (w:World) (vq va vb:Value) (q a b:Nat) (hq:Un w vq q) (ha:Un w va a) (hb:Un w vb b) (hlq:Sn q 100) (hla:Sn a 100) (hlb:Sn b 100) :
  Calls Tryz.prog 86 #[vq,va,vb] w fun e w'=>∃ x y,e = .returned (.tuple #[x,y])∧Un w' x b∧Un w' y (a+q*b)∧Ext w w':=by
 refine Pl.aV (n:=14) (vs:=[vq,va,vb]) Tryz.func86 rfl (by kernel_rfl) (by simp) ?_
 refine Pl.az ?_
 refine Pl.ay (by kernel_rfl) ?_
 refine Pl.aj trivial rfl rfl rfl rfl rfl ?_
 refine Pl.aj trivial rfl rfl rfl rfl rfl ?_
 refine Pl.ak ?_
 refine Pl.az ?_
 refine Pl.ay (by kernel_rfl) ?_
 refine Pl.ah trivial rfl rfl rfl rfl rfl ?_
 refine Pl.ah trivial rfl rfl rfl rfl rfl ?_
 refine Pl.ah trivial rfl rfl rfl rfl rfl ?_
 refine Pl.ah trivial rfl rfl rfl rfl rfl ?_
 refine Pl.aA rfl rfl rfl rfl rfl aA5 ?_
 refine Calls.mono (mulN _ _ _ q b _ hq hb (Sn.le hlq (by decide)) (Sn.le hlb (by decide)) rfl) ?_
 rintro e w1 ⟨Yu,rfl,M5,hB1⟩
 refine ⟨_,rfl,trivial,?_⟩
 have Pk:Sn (q*b) 200:=Sn.mul hlq hlb (by decide)
 have XG:=Un.below ha hB1
 refine Pl.aA rfl rfl rfl rfl rfl aA6 ?_
 refine Calls.mono (afV _ _ _ a (q*b) XG M5 (Sn.le hla (by decide)) (Sn.le Pk (by decide)) _ rfl) ?_
 rintro e w2 ⟨uR,rfl,pR,hB2⟩
 refine ⟨_,rfl,trivial,?_⟩
 have qJ:Sn (a+(q*b)) 201:=Sn.add hla Pk (by decide) (by decide)
 refine Pl.aj trivial rfl rfl rfl rfl rfl ?_
 refine Pl.aj trivial rfl rfl rfl rfl rfl ?_
 refine Pl.ak ?_
 refine Pl.iV rfl rfl rfl ?_
 have avV:=Un.below hb (Ext.below hB1 hB2)
 exact ⟨_,_,rfl,avV,pR,(Ext.below hB1 hB2)⟩
end Go.Proofs.YtnilonnkcbkdmaaGreatDoor
/- Steps in variables. -/
namespace Go.Proofs.YtnilonnkcbkdmaaGreatDoor
open Go.RowKit
set_option linter.all false
set_option maxRecDepth 100000
set_option maxHeartbeats 8000000
namespace EQO
set_option linter.all false
set_option maxRecDepth 100000
set_option maxHeartbeats 8000000
end EQO
open EQO
theorem Cb.cellAt {w:World} {N:Nat} {T:TypeId} {cs:List Value} {v:Value} (h:Cb w N T cs) {j:Nat} (hj:cs[j]?=some v):w.cell? ⟨N,j,none⟩=some v:=by
 rw [cell_of_row w N j cs.toArray T (0,0) h];simpa using hj
theorem Cb.vK {w:World} {N:Nat} {T:TypeId} {cs:List Value} {z:Int} (h:Cb w N T cs) {j:Nat} (hj:cs[j]?=some (.int .u64 z)):(Instr.loadAt 73 (.pointer (some ⟨N,j,none⟩))).run Tryz.prog w = .ok (.int .u64 z) w:=by
 have hc:=h.cellAt hj
 clear h hj
 go_simp
theorem Cb.Oj {w:World} {N:Nat} {T:TypeId} {cs:List Value} {z:Bool} (h:Cb w N T cs) {j:Nat} (hj:cs[j]?=some (.bool z)):(Instr.loadAt 4 (.pointer (some ⟨N,j,none⟩))).run Tryz.prog w = .ok (.bool z) w:=by
 have hc:=h.cellAt hj
 clear h hj
 go_simp
theorem yI (N:Nat) (X:World):(Instr.fieldAt 96 (.pointer (some ⟨N,0,none⟩)) 0).run Tryz.prog X = .ok (.pointer (some ⟨N,0,none⟩)) X:=by go_simp
theorem yJ (N:Nat) (X:World):(Instr.fieldAt 96 (.pointer (some ⟨N,0,none⟩)) 1).run Tryz.prog X = .ok (.pointer (some ⟨N,1,none⟩)) X:=by go_simp
theorem vL (N:Nat) (X:World):(Instr.fieldAt 96 (.pointer (some ⟨N,0,none⟩)) 2).run Tryz.prog X = .ok (.pointer (some ⟨N,2,none⟩)) X:=by go_simp
theorem yK (N:Nat) (X:World):(Instr.fieldAt 96 (.pointer (some ⟨N,0,none⟩)) 3).run Tryz.prog X = .ok (.pointer (some ⟨N,3,none⟩)) X:=by go_simp
theorem vM (N:Nat) (X:World):(Instr.fieldAt 96 (.pointer (some ⟨N,0,none⟩)) 4).run Tryz.prog X = .ok (.pointer (some ⟨N,4,none⟩)) X:=by go_simp
theorem XH {L:List Oper} {S:World→Prop} {K:List (Nat × Value)→World→Prop} {i m d:Nat} {o:Oper} {x:Operand} {r:List (Bool × Nat × Nat)} {l:List (Nat × Value)} {w:World} {T:TypeId} {a b c e f:Value} (ho:Pl.nth L i=some o) (hp:o.op = .box T x) (hd:o.dst=some d) (hg:o.guard=none) (hx:Pl.ig l x=some (.agg #[a,b,c,e,f])) (hS:∀ Y,Ext w Y→S Y)
  (h:∀ N w',Ext w w'→Cb w' N T [a,b,c,e,f]→Pl.gY Tryz.prog L S K r ((d,.pointer (some ⟨N,0,none⟩))::l) w'):Pl.gY Tryz.prog L S K ((false,i,m)::r) l w:=by
 have e1:=(Ext.refl w).alloc (.cells #[a,b,c,e,f] T)
 refine Pl.kU (w':=w.alloc (.cells #[a,b,c,e,f] T)) (v:=.pointer (some ⟨w.heap.size,0,none⟩)) ho hd (by rw [hg];rfl) (fun ρ hρ=>?_) (hS _ e1) (h _ _ e1 (Cb.new w T [a,b,c,e,f]))
 unfold execOp;rw [hp]
 refine Pl.jy _ ?_
 rw [hρ.ig hx]
 go_simp
abbrev RF (u0 u1 v0 v1:Nat) (ev:Bool):Value:=.agg #[.int .u64 (u0:Int),.int .u64 (u1:Int),.int .u64 (v0:Int),.int .u64 (v1:Int),.bool ev]
theorem R7 (w:World) (u0 u1 v0 v1:Nat) (ev:Bool) :
  Calls Tryz.prog 83 #[RF u0 u1 v0 v1 ev] w fun e w'=>e = .returned (.bool (decide (v0=0)))∧Ext w w':=by
 refine Pl.aV (n:=6) (vs:=[RF u0 u1 v0 v1 ev]) Tryz.func83 rfl (by kernel_rfl) (by simp) ?_
 refine Pl.az ?_
 refine Pl.ay (by kernel_rfl) ?_
 refine XH rfl rfl rfl rfl rfl (fun _ _=>trivial) ?_
 intro N1 w1 hB1 ib1
 refine Pl.aj trivial rfl rfl rfl rfl rfl ?_
 refine Pl.ak ?_
 refine Pl.az ?_
 refine Pl.ay (by kernel_rfl) ?_
 refine bg trivial rfl rfl rfl rfl rfl (vL _) ?_
 refine Pl.aH trivial rfl rfl rfl rfl rfl (Cb.vK ib1 rfl) ?_
 refine Pl.aI (v:=(.bool (decide (v0=0)))) trivial rfl rfl rfl rfl rfl rfl (fun X=>avL (by rw [Bool.eq_iff_iff];simp) X) ?_
 refine Pl.aj trivial rfl rfl rfl rfl rfl ?_
 refine Pl.ak ?_
 refine Pl.bU rfl rfl ?_
 exact ⟨rfl,hB1⟩
end Go.Proofs.YtnilonnkcbkdmaaGreatDoor
/- A function value's variables: the iterator of Euclid's rests is made. -/
namespace Go.Proofs.YtnilonnkcbkdmaaGreatDoor
open Go.RowKit
set_option linter.all false
set_option maxRecDepth 100000
set_option maxHeartbeats 8000000
section
variable {L:List Oper} {S:World→Prop} {K:List (Nat × Value)→World→Prop} {i m d:Nat} {o:Oper} {x:Operand} {r:List (Bool × Nat × Nat)} {l:List (Nat × Value)} {w:World} {v:Value}
theorem ajv {T:TypeId} (hv:v.cells=#[v]) (ho:Pl.nth L i=some o) (hp:o.op = .box T x) (hd:o.dst=some d) (hg:o.guard=none) (hx:Pl.ig l x=some v) (hS:∀ Y,Ext w Y→S Y)
  (h:∀ N w',Ext w w'→w.heap.size≤N→Cb w' N T [v]→Pl.gY Tryz.prog L S K r ((d,.pointer (some ⟨N,0,none⟩))::l) w'):Pl.gY Tryz.prog L S K ((false,i,m)::r) l w:=by
 have e1:=(Ext.refl w).alloc (.cells #[v] T)
 refine Pl.kU (w':=w.alloc (.cells #[v] T)) (v:=.pointer (some ⟨w.heap.size,0,none⟩)) ho hd (by rw [hg];rfl) (fun ρ hρ=>?_) (hS _ e1) (h _ _ e1 (Nat.le_refl _) (Cb.new w T [v]))
 unfold execOp;rw [hp]
 refine Pl.jy _ ?_
 rw [hρ.ig hx]
 simp [Instr.box,Sem.run_bind,newVar,newRow,hv]
end
theorem vU (w:World) (va vb fe fg:Value) (h1:va.cells=#[va]) (h2:vb.cells=#[vb]) (h3:fe.cells=#[fe]) (h4:fg.cells=#[fg]) :
  Calls Tryz.prog 49 #[va,vb,fe,fg] w fun e w'=>∃ Na Nb Ne Ng,e = .returned (.func (.func 79) #[] #[.pointer (some ⟨Nb,0,none⟩),.pointer (some ⟨Na,0,none⟩),.pointer (some ⟨Ne,0,none⟩),.pointer (some ⟨Ng,0,none⟩)]) ∧
   Cb w' Na 22 [va]∧Cb w' Nb 22 [vb]∧Cb w' Ne 64 [fe]∧Cb w' Ng 70 [fg]∧w.heap.size≤Na∧Na<Nb∧Nb<Ne∧Ne<Ng∧Ext w w':=by
 refine Pl.aV (n:=10) (vs:=[va,vb,fe,fg]) Tryz.func49 rfl (by kernel_rfl) (by simp) ?_
 refine Pl.az ?_
 refine Pl.ay (by kernel_rfl) ?_
 refine ajv h1 rfl rfl rfl rfl rfl (fun _ _=>trivial) ?_
 intro Na w1 hB1 n1 b1
 refine ajv h2 rfl rfl rfl rfl rfl (fun _ _=>trivial) ?_
 intro Nb w2 hB2 n2 b2
 refine ajv h3 rfl rfl rfl rfl rfl (fun _ _=>trivial) ?_
 intro Ne w3 hB3 n3 b3
 refine ajv h4 rfl rfl rfl rfl rfl (fun _ _=>trivial) ?_
 intro Ng w4 hB4 n4 b4
 refine Pl.aj trivial rfl rfl rfl rfl rfl ?_
 refine Pl.ak ?_
 refine Pl.az ?_
 refine Pl.ay (by kernel_rfl) ?_
 refine Pl.oJ trivial rfl rfl rfl rfl rfl rfl ?_
 refine Pl.aj trivial rfl rfl rfl rfl rfl ?_
 refine Pl.ak ?_
 refine Pl.bU rfl rfl ?_
 have e3:=b3.lt
 have e2:=b2.lt
 have e1:=b1.lt
 exact ⟨Na,Nb,Ne,Ng,rfl,Cb.ext b1 (hB2.below (hB3.below hB4)),Cb.ext b2 (hB3.below hB4),Cb.ext b3 hB4,b4,n1,by omega,by omega,by omega,hB1.below (hB2.below (hB3.below hB4))⟩
end Go.Proofs.YtnilonnkcbkdmaaGreatDoor
/- Function values that do nothing. -/
namespace Go.Proofs.YtnilonnkcbkdmaaGreatDoor
open Go.RowKit
set_option linter.all false
set_option maxRecDepth 100000
set_option maxHeartbeats 8000000
theorem MP (w:World) (t n:Value):Calls Tryz.prog 50 #[t,n] w fun e w'=>e = .returned (.tuple #[])∧w'=w:=by
 refine Pl.aV (n:=4) (vs:=[t,n]) Tryz.func50 rfl (by kernel_rfl) (by simp) ?_
 exact Pl.bN (Pl.mG rfl ⟨rfl,rfl⟩)
theorem Ka (w:World) (t n:Value):Calls Tryz.prog 52 #[t,n] w fun e w'=>e = .returned (.tuple #[])∧w'=w:=by
 refine Pl.aV (n:=4) (vs:=[t,n]) Tryz.func52 rfl (by kernel_rfl) (by simp) ?_
 exact Pl.bN (Pl.mG rfl ⟨rfl,rfl⟩)
theorem J9 (w:World) (q:Value):Calls Tryz.prog 51 #[q] w fun e w'=>e = .returned (.tuple #[])∧w'=w:=by
 refine Pl.aV (n:=2) (vs:=[q]) Tryz.func51 rfl (by kernel_rfl) (by simp) ?_
 exact Pl.bN (Pl.mG rfl ⟨rfl,rfl⟩)
theorem Sa (w:World) (q:Value):Calls Tryz.prog 74 #[q] w fun e w'=>e = .returned (.tuple #[])∧w'=w:=by
 refine Pl.aV (n:=2) (vs:=[q]) Tryz.func74 rfl (by kernel_rfl) (by simp) ?_
 exact Pl.bN (Pl.mG rfl ⟨rfl,rfl⟩)
end Go.Proofs.YtnilonnkcbkdmaaGreatDoor
/- What a function value leaves as it was, which writes some variables that are older than the call. -/
namespace Go.Proofs.YtnilonnkcbkdmaaGreatDoor
open Go.RowKit
set_option linter.all false
set_option maxRecDepth 100000
set_option maxHeartbeats 8000000
structure Xt (Bs:List Nat) (w w':World):Prop where
 os:w'.os=w.os
 tape:w'.tape=w.tape
 output:w'.output=w.output
 block:∀ k,k<w.heap.size→k∉Bs→w'.heap[k]?=w.heap[k]?
 kp:Kp w w'
theorem Xt.ext {Bs:List Nat} {w w':World} (h:Ext w w'):Xt Bs w w':=⟨h.os,h.tape,h.output,fun k hk _=>h.block k hk,Kp.ext h⟩
theorem Xt.refl (Bs:List Nat) (w:World):Xt Bs w w:=Xt.ext (Ext.refl w)
theorem Xt.trans {Bs:List Nat} {a b c:World} (h:Xt Bs a b) (k:Xt Bs b c):Xt Bs a c :=
 ⟨k.os.trans h.os,k.tape.trans h.tape,k.output.trans h.output,fun i hi hn=>(k.block i (Nat.lt_of_lt_of_le hi h.kp.1) hn).trans (h.block i hi hn),h.kp.trans k.kp⟩
theorem Xt.mono {Bs Cs:List Nat} {w w':World} (h:Xt Bs w w') (hs:∀ k∈Bs,k∈Cs):Xt Cs w w':=⟨h.os,h.tape,h.output,fun k hk hn=>h.block k hk fun hb=>hn (hs k hb),h.kp⟩
theorem Xt.cb {Bs:List Nat} {w w':World} {N:Nat} {T:TypeId} {cs:List Value} (h:Xt Bs w w') (hC:Cb w N T cs) (hn:N∉Bs):Cb w' N T cs:=(h.block N hC.lt hn).trans hC
theorem Xt.put {Bs:List Nat} {w:World} {N:Nat} {T:TypeId} {cs:List Value} (hC:Cb w N T cs) (hc:∀ c∈cs,dQ c) (hN:N∈Bs) (new:Array Value):Xt Bs w (w.setRow N new) :=
 ⟨by simp,by simp,by simp,fun k hk hn=>setRow_other w N k new fun e=>hn (e ▸ hN),Kp.put hC hc new⟩
def NR (X:World) (k:Nat):Prop:=∀ cs fr,X.heap[k]?≠some (.cells cs 22 fr)
theorem NR.of {X:World} {N:Nat} {T:TypeId} {cs:List Value} (h:Cb X N T cs) (hT:T ≠ 22):NR X N:=fun cs' fr e=>by
 rw [show X.heap[N]?=_ from h] at e
 simp only [Option.some.injEq,Obj.cells.injEq] at e
 exact hT e.2.1
theorem NR.out {X:World} {N:Nat} (h:X.heap.size≤N):NR X N:=fun cs' fr e=>by rw [Array.getElem?_eq_none h] at e;cases e
structure Xc (base:Nat) (Bs:List Nat) (w w':World):Prop where
 os:w'.os=w.os
 tape:w'.tape=w.tape
 output:w'.output=w.output
 block:∀ k,k<w.heap.size→k∉Bs→(k<base∨NR w k)→w'.heap[k]?=w.heap[k]?
 kp:Kp w w'
section
variable {base:Nat} {Bs Cs:List Nat} {a b c w w':World}
theorem Xc.xt (h:Xt Bs w w'):Xc base Bs w w':=⟨h.os,h.tape,h.output,fun k hk hn _=>h.block k hk hn,h.kp⟩
theorem Xc.ext (h:Ext w w'):Xc base Bs w w':=Xc.xt (Xt.ext h)
theorem Xc.refl (w:World):Xc base Bs w w:=Xc.ext (Ext.refl w)
theorem Xc.trans (h:Xc base Bs a b) (k:Xc base Bs b c):Xc base Bs a c :=
 ⟨k.os.trans h.os,k.tape.trans h.tape,k.output.trans h.output,fun i hi hn hr=>by
  have e1:=h.block i hi hn hr
  refine (k.block i (Nat.lt_of_lt_of_le hi h.kp.1) hn (hr.imp id fun h2 cs fr=>?_)).trans e1
  rw [e1];exact h2 cs fr,h.kp.trans k.kp⟩
theorem Xc.mono (h:Xc base Bs w w') (hs:∀ k∈Bs,k∈Cs):Xc base Cs w w':=⟨h.os,h.tape,h.output,fun k hk hn=>h.block k hk fun hb=>hn (hs k hb),h.kp⟩
theorem Xc.drop (h:Xc base Bs w w') (hs:∀ k∈Bs,k∈Cs∨w.heap.size≤k):Xc base Cs w w':=⟨h.os,h.tape,h.output,fun k hk hn=>h.block k hk fun hb=>by
 rcases hs k hb with h1 | h1
 · exact hn h1
 · omega,h.kp⟩
theorem Xc.cb {N:Nat} {T:TypeId} {cs:List Value} (h:Xc base Bs w w') (hC:Cb w N T cs) (hn:N∉Bs) (hb:N<base∨T ≠ 22):Cb w' N T cs:=(h.block N hC.lt hn (hb.imp id (NR.of hC))).trans hC
end
end Go.Proofs.YtnilonnkcbkdmaaGreatDoor
/- A field of a variable is written. -/
namespace Go.Proofs.YtnilonnkcbkdmaaGreatDoor
open Go.RowKit
set_option linter.all false
set_option maxRecDepth 100000
set_option maxHeartbeats 8000000
theorem Cb.set {w:World} {N:Nat} {T:TypeId} {cs:List Value} (h:Cb w N T cs) (j:Nat) (v:Value):Cb (w.setCell ⟨N,j,none⟩ v) N T (cs.set j v):=by
 unfold Cb at *
 simp only [World.setCell,Array.getElem?_modify,h]
 simp
theorem Cb.setOther {w:World} {M:Nat} {T:TypeId} {cs:List Value} (h:Cb w M T cs) (N j:Nat) (v:Value) (hne:M≠N):Cb (w.setCell ⟨N,j,none⟩ v) M T cs:=(Below.heap_setCell w ⟨N,j,none⟩ v M hne).trans h
theorem Cb.Mo {w:World} {N:Nat} {T:TypeId} {cs:List Value} {a:Bool} (h:Cb w N T cs) {j:Nat} (hj:cs[j]?=some (.bool a)) (b:Bool):(Instr.storeAt 4 (.pointer (some ⟨N,j,none⟩)) (.bool b)).run Tryz.prog w = .ok () (w.setCell ⟨N,j,none⟩ (.bool b)):=by
 have hc:=h.cellAt hj
 have hf:w.frozen? ⟨N,j,none⟩=false:=by unfold Cb at h;simp [World.frozen?,h]
 clear h hj
 go_simp
theorem Cb.storeU64 {w:World} {N:Nat} {T:TypeId} {cs:List Value} {a:Int} (h:Cb w N T cs) {j:Nat} (hj:cs[j]?=some (.int .u64 a)) (b:Int):(Instr.storeAt 73 (.pointer (some ⟨N,j,none⟩)) (.int .u64 b)).run Tryz.prog w = .ok () (w.setCell ⟨N,j,none⟩ (.int .u64 b)):=by
 have hc:=h.cellAt hj
 have hf:w.frozen? ⟨N,j,none⟩=false:=by unfold Cb at h;simp [World.frozen?,h]
 clear h hj
 go_simp
end Go.Proofs.YtnilonnkcbkdmaaGreatDoor
/- What is done to rests is done to cofactors: cofactor's function value. -/
namespace Go.Proofs.YtnilonnkcbkdmaaGreatDoor
open Go.RowKit
set_option linter.all false
set_option maxRecDepth 100000
set_option maxHeartbeats 8000000
theorem Xt.set {Bs:List Nat} {w:World} {N:Nat} {T:TypeId} {cs:List Value} (hC:Cb w N T cs) (hc:∀ c∈cs,dQ c) (hN:N∈Bs) (j:Nat) (v:Value):Xt Bs w (w.setCell ⟨N,j,none⟩ v):=by
 refine ⟨rfl,rfl,rfl,fun k hk hn=>Below.heap_setCell w ⟨N,j,none⟩ v k fun e=>hn (e ▸ hN),by simp,fun a k e=>?_⟩
 by_cases hb:a.block=N
 · exfalso
   subst hb
   unfold World.cell? at e
   rw [show w.heap[a.block]?=_ from hC] at e
   simp at e
   exact hc _ (List.mem_of_getElem? e.2) k rfl
 · rw [World.cell?_setCell_other _ _ _ _ (fun e=>hb (by rw [← e]))];exact e
theorem Cb.gK {w:World} {N:Nat} {T:TypeId} {v:Value} (h:Cb w N T [v]) (A:Option Addr) (n c:Nat):(Instr.storeAt 22 (.pointer (some ⟨N,0,none⟩)) (.slice A n c)).run Tryz.prog w = .ok () (w.setCell ⟨N,0,none⟩ (.slice A n c)):=by
 have hc:=h.cell
 have hf:w.frozen? ⟨N,0,none⟩=false:=by unfold Cb at h;simp [World.frozen?,h]
 clear h
 go_simp
theorem Cb.BO {w:World} {N:Nat} {T:TypeId} {v:Value} (h:Cb w N T [v]) (z:Int):(Instr.storeAt 3 (.pointer (some ⟨N,0,none⟩)) (.int .i64 z)).run Tryz.prog w = .ok () (w.setCell ⟨N,0,none⟩ (.int .i64 z)):=by
 have hc:=h.cell
 have hf:w.frozen? ⟨N,0,none⟩=false:=by unfold Cb at h;simp [World.frozen?,h]
 clear h
 go_simp
theorem cZ (A:Option Addr) (n c:Nat):∀ u∈[Value.slice A n c],dQ u:=by
 intro u hu k e
 rw [List.mem_singleton] at hu
 rw [hu] at e
 cases e
theorem tC (z:Int):∀ u∈[Value.int .i64 z],dQ u:=by
 intro u hu k e
 rw [List.mem_singleton] at hu
 rw [hu] at e
 cases e
theorem O8 (w:World) (f:FuncId) (fs:List Value) (vx vy:Value) (x y x' y':Nat) (N1 N2 N3:Nat) (T1 T2 T3:TypeId) (s k:Int) (hx:Un w vx x) (hy:Un w vy y)
  (h1:Cb w N1 T1 [vx]) (h2:Cb w N2 T2 [vy]) (h3:Cb w N3 T3 [.int .i64 s]) (n12:N1≠N2) (n13:N1≠N3) (n23:N2≠N3) (hs : -1000000000≤s+k∧s+k≤1000000000)
  (hen:∀ (u:Array Value) X,(callFunc f u).run Tryz.prog X = .ok (.enter f u) X)
  (ht:Calls Tryz.prog f (fs++([vx,vy]++[])).toArray w fun e w'=>∃ a b,e = .returned (.tuple #[a,b])∧Un w' a x'∧Un w' b y'∧Ext w w') :
  Calls Tryz.prog 73 #[.func (.func f) fs.toArray #[],.int .i64 k,.pointer (some ⟨N1,0,none⟩),.pointer (some ⟨N2,0,none⟩),.pointer (some ⟨N3,0,none⟩)] w fun e w'=>e = .returned (.tuple #[])∧∃ a b,Un w' a x'∧Un w' b y' ∧
   Cb w' N1 T1 [a]∧Cb w' N2 T2 [b]∧Cb w' N3 T3 [.int .i64 (s+k)]∧Xt [N1,N2,N3] w w':=by
 obtain ⟨A1,c1,rfl,-⟩:=Un.sh hx
 obtain ⟨A2,c2,rfl,-⟩:=Un.sh hy
 refine Pl.aV (n:=17) (vs:=[.func (.func f) fs.toArray #[],.int .i64 k,.pointer (some ⟨N1,0,none⟩),.pointer (some ⟨N2,0,none⟩),.pointer (some ⟨N3,0,none⟩)]) Tryz.func73 rfl (by kernel_rfl) (by simp) ?_
 refine Pl.az ?_
 refine Pl.ay (by kernel_rfl) ?_
 refine Pl.ah trivial rfl rfl rfl rfl rfl ?_
 refine Pl.aH trivial rfl rfl rfl rfl rfl (Cb.limbs h1) ?_
 refine Pl.aH trivial rfl rfl rfl rfl rfl (Cb.limbs h2) ?_
 refine Pl.iB rfl rfl rfl rfl rfl rfl hen ?_
 refine Calls.mono ht ?_
 rintro e w1 ⟨a,b,rfl,ha,hb,hB1⟩
 obtain ⟨A3,c3,rfl,-⟩:=Un.sh ha
 obtain ⟨A4,c4,rfl,-⟩:=Un.sh hb
 refine ⟨_,rfl,trivial,?_⟩
 refine Pl.ah trivial rfl rfl rfl rfl rfl ?_
 refine Pl.aB trivial rfl rfl rfl rfl rfl rfl ?_
 refine Pl.aB trivial rfl rfl rfl rfl rfl rfl ?_
 have k1:=Cb.ext h1 hB1
 have k2:=Cb.ext h2 hB1
 have k3:=Cb.ext h3 hB1
 have s1:=Cb.gK k1 A3 (limbs x').length c3
 have x1:=Xt.set (Bs:=[N1,N2,N3]) k1 (cZ _ _ _) (by simp) 0 (.slice A3 (limbs x').length c3)
 have k1':=Cb.set k1 0 (.slice A3 (limbs x').length c3)
 have k2':=Cb.setOther k2 N1 0 (.slice A3 (limbs x').length c3) (Ne.symm n12)
 have k3':=Cb.setOther k3 N1 0 (.slice A3 (limbs x').length c3) (Ne.symm n13)
 generalize w1.setCell ⟨N1,0,none⟩ (.slice A3 (limbs x').length c3)=w2 at *
 refine Pl.bT rfl rfl rfl rfl rfl rfl s1 trivial ?_
 have s2:=Cb.gK k2' A4 (limbs y').length c4
 have x2:=Xt.set (Bs:=[N1,N2,N3]) k2' (cZ _ _ _) (by simp) 0 (.slice A4 (limbs y').length c4)
 have m2:=Cb.set k2' 0 (.slice A4 (limbs y').length c4)
 have m1:=Cb.setOther k1' N2 0 (.slice A4 (limbs y').length c4) n12
 have m3:=Cb.setOther k3' N2 0 (.slice A4 (limbs y').length c4) (Ne.symm n23)
 generalize w2.setCell ⟨N2,0,none⟩ (.slice A4 (limbs y').length c4)=w3 at *
 refine Pl.bT rfl rfl rfl rfl rfl rfl s2 trivial ?_
 refine Pl.ak ?_
 refine Pl.ay (by kernel_rfl) ?_
 refine Pl.aH trivial rfl rfl rfl rfl rfl (Cb.int m3) ?_
 refine Pl.ah trivial rfl rfl rfl rfl rfl ?_
 refine Pl.aI (v:=.int .i64 (s+k)) trivial rfl rfl rfl rfl rfl rfl (fun X=>mM rfl hs.1 hs.2 X) ?_
 have s3:=Cb.BO m3 (s+k)
 have x3:=Xt.set (Bs:=[N1,N2,N3]) m3 (tC _) (by simp) 0 (.int .i64 (s+k))
 have p3:=Cb.set m3 0 (.int .i64 (s+k))
 have p1:=Cb.setOther m1 N3 0 (.int .i64 (s+k)) n13
 have p2:=Cb.setOther m2 N3 0 (.int .i64 (s+k)) n23
 generalize w3.setCell ⟨N3,0,none⟩ (.int .i64 (s+k))=w4 at *
 refine Pl.bT rfl rfl rfl rfl rfl rfl s3 trivial ?_
 refine Pl.ak ?_
 have kp:=x1.kp.trans (x2.kp.trans x3.kp)
 exact Pl.mG rfl ⟨rfl,_,_,Un.kp ha kp,Un.kp hb kp,p1,p2,p3,(Xt.ext hB1).trans (x1.trans (x2.trans x3))⟩
end Go.Proofs.YtnilonnkcbkdmaaGreatDoor
/- A guess tells its quotients: the function value of rests. -/
namespace Go.Proofs.YtnilonnkcbkdmaaGreatDoor
open Go.RowKit
set_option linter.all false
set_option maxRecDepth 100000
set_option maxHeartbeats 8000000
theorem Cb.func {w:World} {N:Nat} {T:TypeId} {f:Fn} {a b:Array Value} (h:Cb w N T [.func f a b]):(Instr.loadAt 64 (.pointer (some ⟨N,0,none⟩))).run Tryz.prog w = .ok (.func f a b) w:=by
 have hc:=h.cell
 clear h
 go_simp
theorem aA7 (u:Array Value) (X:World):(callFunc 54 u).run Tryz.prog X = .ok (.enter 54 u) X:=Pl.enters Tryz.func54 (by kernel_rfl) rfl u X
theorem R6 (w:World) (q:Nat) (hq:q<18446744073709551616) (f:FuncId) (fs cap:List Value) (N1 N2:Nat) (T1 T2:TypeId) (s:Int) (base:Nat) (Bs:List Nat) (I:World→Prop) (OI:T2 ≠ 22) (hT1:T1 ≠ 22)
  (h1:Cb w N1 T1 [.func (.func f) fs.toArray cap.toArray]) (h2:Cb w N2 T2 [.int .i64 s]) (hs : -1000000000≤s+1∧s+1≤1000000000) (b1:N1∉Bs) (b2:N2∉Bs)
  (hen:∀ (u:Array Value) X,(callFunc f u).run Tryz.prog X = .ok (.enter f u) X)
  (ht:∀ X v,Ext w X→Un X v q→Calls Tryz.prog f (fs++([v]++cap)).toArray X fun e w'=>e = .returned (.tuple #[])∧I w'∧Xc base Bs X w')
  (hI:∀ X Y,I X→Xt [N2] X Y→NR X N2→I Y) :
  Calls Tryz.prog 82 #[.int .u64 (q:Int),.pointer (some ⟨N1,0,none⟩),.pointer (some ⟨N2,0,none⟩)] w fun e w'=>e = .returned (.tuple #[])∧I w'∧Cb w' N2 T2 [.int .i64 (s+1)]∧Xc base (N2::Bs) w w':=by
 refine Pl.aV (n:=10) (vs:=[.int .u64 (q:Int),.pointer (some ⟨N1,0,none⟩),.pointer (some ⟨N2,0,none⟩)]) Tryz.func82 rfl (by kernel_rfl) (by simp) ?_
 refine Pl.az ?_
 refine Pl.iN (S:=fun X=>Cb X N1 T1 [.func (.func f) fs.toArray cap.toArray]) [(true,0,0),(true,1,1),(false,2,3),(false,3,7)] fo Pl.aD (by kernel_rfl) (Cb.ext h1 (Ext.drew (Ext.refl w))) ?_
 have hB1:=Ext.drew (Ext.refl w)
 generalize w.drew=w1 at *
 intro hS1
 refine Pl.aR hS1 rfl rfl rfl rfl rfl (fun X hX=>Cb.func hX) ?_
 refine Pl.ah hS1 rfl rfl rfl rfl rfl ?_
 refine Pl.aA rfl rfl rfl rfl rfl aA7 ?_
 refine Calls.mono (of_B _ (q:Int) (by omega) (by omega) q (by omega)) ?_
 rintro e w2 ⟨v,rfl,hv,hB2⟩
 refine ⟨_,rfl,Cb.ext hS1 hB2,?_⟩
 refine Pl.iB rfl rfl rfl rfl rfl rfl hen ?_
 refine Calls.mono (ht _ v (hB1.below hB2) hv) ?_
 rintro e w3 ⟨rfl,Bu,hX3⟩
 refine ⟨_,rfl,hX3.cb (Cb.ext hS1 hB2) b1 (.inr hT1),?_⟩
 refine Pl.ak ?_
 have k2:=hX3.cb (Cb.ext h2 (hB1.below hB2)) b2 (.inr OI)
 have x3:Xc base (N2::Bs) w w3:=(Xc.ext (hB1.below hB2)).trans (hX3.mono fun k hk=>List.mem_cons_of_mem _ hk)
 refine Pl.ay (by kernel_rfl) ?_
 refine Pl.aH trivial rfl rfl rfl rfl rfl (Cb.int k2) ?_
 refine Pl.aI (v:=.int .i64 (s+1)) trivial rfl rfl rfl rfl rfl rfl (fun X=>mM rfl hs.1 hs.2 X) ?_
 have s3:=Cb.BO k2 (s+1)
 have x4:=Xt.set (Bs:=[N2]) k2 (tC _) (by simp) 0 (.int .i64 (s+1))
 have p3:=Cb.set k2 0 (.int .i64 (s+1))
 generalize w3.setCell ⟨N2,0,none⟩ (.int .i64 (s+1))=w4 at *
 refine Pl.bT rfl rfl rfl rfl rfl rfl s3 trivial ?_
 refine Pl.ak ?_
 exact Pl.mG rfl ⟨rfl,hI _ _ Bu x4 (NR.of k2 OI),p3,x3.trans (Xc.xt (x4.mono (by simp)))⟩
end Go.Proofs.YtnilonnkcbkdmaaGreatDoor
/- A quotient is appended to a row: Quots' function value. -/
namespace Go.Proofs.YtnilonnkcbkdmaaGreatDoor
open Go.RowKit
set_option linter.all false
set_option maxRecDepth 100000
set_option maxHeartbeats 8000000
section
variable {L:List Oper} {S:World→Prop} {K:List (Nat × Value)→World→Prop} {i m d:Nat} {o:Oper} {x y:Operand} {r:List (Bool × Nat × Nat)} {l:List (Nat × Value)} {w w':World}
theorem Ub {A:Option Addr} {n c:Nat} (ho:Pl.nth L i=some o) (hp:o.op = .buildSlice 30 1 #[(0,x)]) (hd:o.dst=some d) (hg:Pl.gd L l o.guard=some true) (hx:Pl.ig l x=some (.slice A n c)) (hS:∀ Y,Ext w Y→S Y)
  (h:∀ M w',Ext w w'→Cb w' M 22 [.slice A n c]→Pl.gY Tryz.prog L S K r ((d,.slice (some ⟨M,0,none⟩) 1 1)::l) w'):Pl.gY Tryz.prog L S K ((false,i,m)::r) l w:=by
 have e1:=(Ext.refl w).alloc (.cells #[.slice A n c] 22)
 refine Pl.kU (w':=w.alloc (.cells #[.slice A n c] 22)) (v:=.slice (some ⟨w.heap.size,0,none⟩) 1 1) ho hd hg (fun ρ hρ=>?_) (hS _ e1) (h _ _ e1 (Cb.new w _ _))
 unfold execOp;rw [hp]
 refine Pl.jy _ ?_
 have e:=hρ.ig hx
 simp only [List.map_toArray,List.map_cons,List.map_nil]
 go_simp
theorem vH {t:TypeId} {v u v':Value} (ho:Pl.nth L i=some o) (hop:o.op = .call { callee:=.builtin .append,args:=#[x,y],argTypes:=#[t,t] }) (hd:o.dst=some d) (hg:Pl.gd L l o.guard=some true) (hx:Pl.ig l x=some v) (hy:Pl.ig l y=some u)
  (hty:o.type=t) (hr:(Builtin.append_ #[t,t] t #[v,u]).run Tryz.prog w = .ok v' w') (hS:S w') (h:Pl.gY Tryz.prog L S K r ((d,v')::l) w'):Pl.gY Tryz.prog L S K ((false,i,m)::r) l w :=
 Pl.kU ho hd hg (fun ρ hρ=>by
  obtain ⟨d',op',t',ps',axm,gu'⟩:=o
  cases hop
  have e:=hρ.ig hx
  have e2:=hρ.ig hy
  obtain rfl:t'=t:=hty
  exact Pl.jy (Builtin.append_ _ _ (#[x,y].map ρ)) (by rw [show #[x,y].map ρ=#[v,u] from by simp [e,e2]];exact hr)) hS h
end
theorem Cb.wP {w:World} {N:Nat} {T:TypeId} {v:Value} (h:Cb w N T [v]):(Instr.loadAt 30 (.pointer (some ⟨N,0,none⟩))).run Tryz.prog w = .ok v w:=by
 have hc:=h.cell
 clear h
 go_simp
theorem Cb.apt {w:World} {N:Nat} {T:TypeId} {v:Value} (h:Cb w N T [v]) (A:Option Addr) (n c:Nat):(Instr.storeAt 30 (.pointer (some ⟨N,0,none⟩)) (.slice A n c)).run Tryz.prog w = .ok () (w.setCell ⟨N,0,none⟩ (.slice A n c)):=by
 have hc:=h.cell
 have hf:w.frozen? ⟨N,0,none⟩=false:=by unfold Cb at h;simp [World.frozen?,h]
 clear h
 go_simp
theorem Gr.sh {ok:Value→Prop} {w:World} {base size n:Nat} {e:TypeId} {v:Value} {xs:List Value} (h:Pl.Gr ok w base e size v n xs):∃ A c,v = .slice A n c:=by
 rcases h.2 with ⟨rfl,rfl⟩ | ⟨g,cap,cur,rfl,_⟩
 · exact ⟨_,_,rfl⟩
 · exact ⟨_,_,rfl⟩
theorem Gr.setCell {ok:Value→Prop} {w:World} {base size n N j:Nat} {e T:TypeId} {v u:Value} {xs cs:List Value} (h:Pl.Gr ok w base e size v n xs) (hC:Cb w N T cs) (hT:T≠e):Pl.Gr ok (w.setCell ⟨N,j,none⟩ u) base e size v n xs:=by
 refine ⟨h.1,?_⟩
 rcases h.2 with hn | ⟨g,cap,cur,rfl,hb,hgg,rest⟩
 · exact .inl hn
 · refine .inr ⟨g,cap,cur,rfl,hb,?_,rest⟩
   rw [Below.heap_setCell w ⟨N,j,none⟩ u g ?_]
   · exact hgg
   · intro eq
     have eq:g=N:=eq
     subst eq
     rw [show w.heap[g]?=_ from hC] at hgg
     simp only [Option.some.injEq,Obj.cells.injEq] at hgg
     exact hT hgg.2.1
theorem wz:∀ c∈(Value.slice none 0 0).cells.toList,dQ c:=cZ none 0 0
theorem MO (w:World) (A:Option Addr) (k c:Nat) (N base n:Nat) (T:TypeId) (v:Value) (xs:List Value) (h1:Cb w N T [v]) (hT:T ≠ 22) (hG:Pl.Gr dQ w base 22 1 v n xs) (hn:n≤1000000) (hb:base≤w.heap.size) :
  Calls Tryz.prog 48 #[.slice A k c,.pointer (some ⟨N,0,none⟩)] w fun e w'=>e = .returned (.tuple #[])∧∃ v',Cb w' N T [v']∧Pl.Gr dQ w' base 22 1 v' (n+1) (xs++[.slice A k c]) ∧
   Kp w w'∧(w'.os=w.os∧w'.tape=w.tape∧w'.output=w.output)∧∀ j,j<w.heap.size→j≠N→some j≠v.ownBlock→w'.heap[j]?=w.heap[j]?:=by
 obtain ⟨A0,c0,rfl⟩:=Gr.sh hG
 refine Pl.aV (n:=7) (vs:=[.slice A k c,.pointer (some ⟨N,0,none⟩)]) Tryz.func48 rfl (by kernel_rfl) (by simp) ?_
 refine Pl.ay (by kernel_rfl) ?_
 refine Pl.aH trivial rfl rfl rfl rfl rfl (Cb.wP h1) ?_
 refine Pl.ah trivial rfl rfl rfl rfl rfl ?_
 refine Ub rfl rfl rfl rfl rfl (fun _ _=>trivial) ?_
 intro M w1 hB1 hM
 have k1:=Cb.ext h1 hB1
 have g1:=Gr.ext hG hB1
 have hnews:∀ j u,[Value.slice A k c][j]?=some u→w1.cell? ((⟨M,0,none⟩:Addr).add j)=some u:=by
  intro j u hj
  rw [Addr.add_mid,Nat.zero_add]
  exact hM.cellAt hj
 have Ua:(Tryz.prog.info? 22).map (fun i=>(i.zero,i.size,i.bytes))=some (some (.slice none 0 0),1,24):=by kernel_rfl
 obtain ⟨inf,hi,hz⟩:=Option.map_eq_some_iff.1 Ua
 simp only [Prod.mk.injEq] at hz
 obtain ⟨hz1,hz2,hz3⟩:=hz
 obtain ⟨v',w2,hr,hG2,hg2⟩:=Pl.CO (P:=Tryz.prog) w1 30 30 inf _ 24 rfl hi hz1 hz2 hz3 rfl wz g1 ⟨M,0,none⟩ 1 1 [.slice A k c] rfl (by decide) hnews (by simp [Value.oneCell']) (cZ _ _ _) (by unfold maxLen;omega) (by omega) (Nat.le_trans hb hB1.size)
 obtain ⟨A5,c5,rfl⟩:=Gr.sh hG2
 refine vH rfl rfl rfl rfl rfl rfl rfl hr trivial ?_
 have hNL:∀ c,dQ c→dQ c:=fun _ h=>h
 have k2:=Cb.grown k1 g1 hT hg2
 have kp2:=Kp.grown g1 hNL hg2
 have nl:∀ u∈[Value.slice A0 n c0],dQ u:=cZ _ _ _
 have s3:=Cb.apt k2 A5 (n+1) c5
 have x3:=Xt.set (Bs:=[N]) k2 nl (by simp) 0 (.slice A5 (n+1) c5)
 have k3:=Cb.set k2 0 (.slice A5 (n+1) c5)
 have g3:=Gr.setCell (N:=N) (j:=0) (u:=.slice A5 (n+1) c5) hG2 k2 hT
 have b3:∀ j,j≠N→(w2.setCell ⟨N,0,none⟩ (.slice A5 (n+1) c5)).heap[j]?=w2.heap[j]?:=fun j hj=>Below.heap_setCell w2 ⟨N,0,none⟩ _ j hj
 generalize w2.setCell ⟨N,0,none⟩ (.slice A5 (n+1) c5)=w3 at *
 refine Pl.bT rfl rfl rfl rfl rfl rfl s3 trivial ?_
 refine Pl.ak ?_
 refine Pl.mG rfl ⟨rfl,_,k3,g3,(Kp.ext hB1).trans (kp2.trans x3.kp),⟨x3.os.trans (hg2.os.trans hB1.os),x3.tape.trans (hg2.tape.trans hB1.tape),x3.output.trans (hg2.output.trans hB1.output)⟩,fun j hj hn hv=>?_⟩
 rw [b3 j hn,hg2.block j (Nat.lt_of_lt_of_le hj hB1.size) hv,hB1.block j hj]
end Go.Proofs.YtnilonnkcbkdmaaGreatDoor
