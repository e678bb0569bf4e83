/- The document's greatest common divisor. -/
import Derived.Test.YtfhcmggpojhegaaGreatDoorBat
import Derived.Test.YtfhcmggpojhegaaGreatDoorBaa
import Derived.Test.YtfhcmggpojhegaaGreatDoorBas
import Derived.Test.YtfhcmggpojhegaaGreatDoorBad
import Derived.Test.YtfhcmggpojhegaaGreatDoorBaq
import Derived.Deep.WholeRow
import Derived.Deep.MidRow
import Derived.Laws.CopyOwn

namespace Go.Proofs.YtfhcmggpojhegaaGreatDoor
open Go.RowKit
set_option linter.all false
set_option maxRecDepth 100000
set_option maxHeartbeats 8000000
namespace EQB
set_option linter.all false
set_option maxRecDepth 100000
set_option maxHeartbeats 8000000
end EQB
open EQB
theorem zT (x y:Nat):Nat.gcd y (x%y)=Nat.gcd x y:=by rw [Nat.gcd_comm x y,Nat.gcd_rec y x,Nat.gcd_comm]
end Go.Proofs.YtfhcmggpojhegaaGreatDoor
/- Words of 64 bits; the greatest common divisor of two of them. -/
namespace Go.Proofs.YtfhcmggpojhegaaGreatDoor
open Go.RowKit
set_option linter.all false
set_option maxRecDepth 100000
set_option maxHeartbeats 8000000
namespace EQH
set_option linter.all false
set_option maxRecDepth 100000
set_option maxHeartbeats 8000000
end EQH
open EQH
section
variable {x y:Operand}
theorem Ep {c:Nat} (h:c<18446744073709551616):IntKind.u64.wrap (c:Int)=(c:Int):=by rw [IntKind.wrap_u64];omega
theorem YC {a b:Nat} (h0:0<b) (hb:b<18446744073709551616) (X:World):(do eqGuard .rem 82 x y (.int .u64 (a:Int)) (.int .u64 (b:Int));binOp .rem 82 (.int .u64 (a:Int)) (.int .u64 (b:Int)):Sem Value).run Tryz.prog X = .ok (.int .u64 ((a%b:Nat):Int)) X:=by
 have hc:=Nat.mod_lt a h0
 have e:Int.tmod (a:Int) (b:Int)=((a%b:Nat):Int):=rfl
 have w1:=Ep (c:=a%b) (by omega)
 have hz:¬ ((b:Int)=0):=by omega
 have hn:¬ b=0:=by omega
 clear hc
 generalize a%b=c at *
 go_simp
theorem afC {a b:Nat} (h0:0<b) (ha:a<18446744073709551616) (X:World):(do eqGuard .quo 82 x y (.int .u64 (a:Int)) (.int .u64 (b:Int));binOp .quo 82 (.int .u64 (a:Int)) (.int .u64 (b:Int)):Sem Value).run Tryz.prog X = .ok (.int .u64 ((a/b:Nat):Int)) X:=by
 have hc:=Nat.div_le_self a b
 have e:Int.tdiv (a:Int) (b:Int)=((a/b:Nat):Int):=rfl
 have w1:=Ep (c:=a/b) (by omega)
 have hz:¬ ((b:Int)=0):=by omega
 have hn:¬ b=0:=by omega
 clear hc
 generalize a/b=c at *
 go_simp
theorem sN {a b c:Nat} (h:a+b=c) (hc:c<18446744073709551616) (X:World):(do eqGuard .add 82 x y (.int .u64 (a:Int)) (.int .u64 (b:Int));binOp .add 82 (.int .u64 (a:Int)) (.int .u64 (b:Int)):Sem Value).run Tryz.prog X = .ok (.int .u64 (c:Int)) X:=by
 have e:(a:Int)+(b:Int)=(c:Int):=by omega
 have w1:=Ep hc
 clear h hc
 go_simp
theorem afD {a b c:Nat} (h:b≤a) (e':a-b=c) (ha:a<18446744073709551616) (X:World):(do eqGuard .sub 82 x y (.int .u64 (a:Int)) (.int .u64 (b:Int));binOp .sub 82 (.int .u64 (a:Int)) (.int .u64 (b:Int)):Sem Value).run Tryz.prog X = .ok (.int .u64 (c:Int)) X:=by
 have e:(a:Int)-(b:Int)=(c:Int):=by omega
 have w1:=Ep (c:=c) (by omega)
 clear h e' ha
 go_simp
theorem yl {a b c:Nat} (h:a*b=c) (hc:c<18446744073709551616) (X:World):(do eqGuard .mul 82 x y (.int .u64 (a:Int)) (.int .u64 (b:Int));binOp .mul 82 (.int .u64 (a:Int)) (.int .u64 (b:Int)):Sem Value).run Tryz.prog X = .ok (.int .u64 (c:Int)) X:=by
 have e:(a:Int)*(b:Int)=(c:Int):=by rw [← h,Int.natCast_mul]
 have w1:=Ep hc
 clear h hc
 go_simp
theorem afE {a b:Int} {v:Bool} (h:(a != b)=v) (X:World):(do eqGuard .neq 82 x y (.int .u64 a) (.int .u64 b);binOp .neq 82 (.int .u64 a) (.int .u64 b):Sem Value).run Tryz.prog X = .ok (.bool v) X:=by
 subst h;go_simp
theorem al3 {a b:Int} {v:Bool} (h:(a==b)=v) (X:World):(do eqGuard .eql 82 x y (.int .u64 a) (.int .u64 b);binOp .eql 82 (.int .u64 a) (.int .u64 b):Sem Value).run Tryz.prog X = .ok (.bool v) X:=by
 subst h;go_simp
theorem NB {a b:Int} {v:Bool} (h:decide (b≤a)=v) (X:World):(do eqGuard .geq 82 x y (.int .u64 a) (.int .u64 b);binOp .geq 82 (.int .u64 a) (.int .u64 b):Sem Value).run Tryz.prog X = .ok (.bool v) X:=by
 subst h;go_simp
end
theorem ag0 (w:World) (a b:Nat) (ha:a<18446744073709551616) (hb:b<18446744073709551616) :
  Calls Tryz.prog 63 #[.int .u64 (a:Int),.int .u64 (b:Int)] w fun e w'=>e = .returned (.int .u64 (Nat.gcd a b:Nat))∧Ext w w':=by
 refine Pl.aZ (n:=12) (vs:=[.int .u64 (a:Int),.int .u64 (b:Int)]) Tryz.func63 rfl (by kernel_rfl) (by simp) ?_
 refine Pl.ay ?_
 refine Pl.ak (by kernel_rfl) ?_
 refine Pl.aF trivial rfl rfl rfl rfl rfl ?_
 refine Pl.aj ?_
 refine Pl.ay ?_
 refine Pl.eF [(0,.int .u64 (a:Int)),(1,.int .u64 (b:Int))] (Pl.aa rfl (Pl.aa rfl Pl.aI)) ?_
 refine Pl.dM ?_
 refine Pl.pV (fun k l' w'=>∃ (x y:Nat),k=y∧Nat.gcd x y=Nat.gcd a b∧x<18446744073709551616∧y<18446744073709551616∧Ext w w'∧l'=[(0,.int .u64 (x:Int)),(1,.int .u64 (y:Int))]) b ⟨a,b,rfl,rfl,ha,hb,Ext.refl w,rfl⟩ ?_
 rintro y _ w1 ⟨x,_,rfl,hgk,hx,hy,hE,rfl⟩
 rcases Nat.eq_zero_or_pos y with hy0 | hy0
 · refine Pl.ay ?_
   refine Pl.ay ?_
   refine Pl.ak (by kernel_rfl) ?_
   refine Pl.aA trivial rfl rfl rfl rfl rfl ?_
   refine Pl.aN (v:=(.bool false)) trivial rfl rfl rfl rfl rfl rfl (fun X=>afE (by simp;omega) X) ?_
   refine Pl.aj ?_
   refine Pl.bn rfl ?_
   refine Pl.lD ?_
   refine Pl.ay ?_
   refine Pl.ak (by kernel_rfl) ?_
   refine Pl.aA trivial rfl rfl rfl rfl rfl ?_
   refine Pl.aF trivial rfl rfl rfl rfl rfl ?_
   refine Pl.aj ?_
   refine Pl.bI rfl rfl ?_
   exact ⟨by rw [← hgk,hy0,Nat.gcd_zero_right],hE⟩
 · refine Pl.ay ?_
   refine Pl.ay ?_
   refine Pl.ak (by kernel_rfl) ?_
   refine Pl.aA trivial rfl rfl rfl rfl rfl ?_
   refine Pl.aN (v:=(.bool true)) trivial rfl rfl rfl rfl rfl rfl (fun X=>afE (by simp;omega) X) ?_
   refine Pl.aj ?_
   refine Pl.cK rfl ?_
   refine Pl.bM ?_
   refine Pl.dM ?_
   refine Pl.iJ (S:=fun X=>Ext w1 X) [(true,0,0),(true,1,1),(true,2,3),(true,3,7),(true,4,15),(true,5,31)] fo (by repeat first | exact Pl.aB | refine Pl.lS ?_ | refine Pl.oh ?_ | refine Pl.yj ?_) (by kernel_rfl) (Ext.drew (Ext.refl w1)) ?_
   generalize w1.drew=w2
   intro hB2
   have hS2:=hB2
   refine Pl.aA hS2 rfl rfl rfl rfl rfl ?_
   refine Pl.aA hS2 rfl rfl rfl rfl rfl ?_
   refine Pl.aA hS2 rfl rfl rfl rfl rfl ?_
   refine Pl.aN (v:=(.int .u64 ((x%y:Nat):Int))) hS2 rfl rfl rfl rfl rfl rfl (fun X=>YC hy0 hy X) ?_
   refine Pl.aF hS2 rfl rfl rfl rfl rfl ?_
   refine Pl.aF hS2 rfl rfl rfl rfl rfl ?_
   refine Pl.aj ?_
   refine Pl.dG ?_
   exact Pl.jY [(0,.int .u64 (y:Int)),(1,.int .u64 ((x%y:Nat):Int))] (Pl.aa rfl (Pl.aa rfl Pl.aI)) (Nat.mod_lt x hy0) ⟨y,x%y,rfl,(zT x y).trans hgk,hy,Nat.lt_trans (Nat.mod_lt x hy0) hy,hE.below hB2,rfl⟩
end Go.Proofs.YtfhcmggpojhegaaGreatDoor
/- Boxes of any struct, rows that grow: what stays while they are written. -/
namespace Go.Proofs.YtfhcmggpojhegaaGreatDoor
open Go.RowKit
set_option linter.all false
set_option maxRecDepth 100000
set_option maxHeartbeats 8000000
def Cb (w:World) (N:Nat) (T:TypeId) (cs:List Value):Prop:=w.heap[N]?=some (.cells cs.toArray T (0,0))
def gF (c:Value):Prop:=∀ k,c≠.int .u32 k
def Kp (w w':World):Prop:=w.heap.size≤w'.heap.size∧∀ a k,w.cell? a=some (.int .u32 k)→w'.cell? a=some (.int .u32 k)
theorem Kp.refl (w:World):Kp w w:=⟨Nat.le_refl _,fun _ _ h=>h⟩
theorem Kp.trans {a b c:World} (h:Kp a b) (k:Kp b c):Kp a c:=⟨Nat.le_trans h.1 k.1,fun p x e=>k.2 p x (h.2 p x e)⟩
theorem Kp.ext {w w':World} (h:Ext w w'):Kp w w':=⟨h.size,fun a k e=>(h.cell (World.block_lt_of_cell? w a e)).trans e⟩
theorem U.kp {w w':World} {v:Value} {xs:List Nat} (h:U w v xs) (k:Kp w w'):U w' v xs:=by
 obtain ⟨A,c,e,hc,hx,hr⟩:=h
 refine ⟨A,c,e,hc,hx,fun h0=>?_⟩
 obtain ⟨ad,ea,hb,hj⟩:=hr h0
 exact ⟨ad,ea,Nat.lt_of_lt_of_le hb k.1,fun j hjl=>k.2 _ _ (hj j hjl)⟩
theorem Un.kp {w w':World} {v:Value} {n:Nat} (h:Un w v n) (k:Kp w w'):Un w' v n:=U.kp h k
theorem Zn.kp {w w':World} {v:Value} {z:Int} (h:Zn w v z) (k:Kp w w'):Zn w' v z:=by
 obtain ⟨A,c,e,hu⟩:=h
 exact ⟨A,c,e,Un.kp hu k⟩
theorem Ib.kpB {w w':World} {N:Nat} {b:Bool} {m:Value} (h:Ib w N b m) (hb:w'.heap[N]?=w.heap[N]?) (hs:w.heap.size≤w'.heap.size):Ib w' N b m:=by
 obtain ⟨h0,h1,h2,h3,h4⟩:=h
 exact ⟨Nat.lt_of_lt_of_le h0 hs,(World.cell?_of_block (a:=⟨N,0,none⟩) hb).trans h1,(World.cell?_of_block (a:=⟨N,1,none⟩) hb).trans h2,(World.frozen?_of_block (a:=⟨N,0,none⟩) hb).trans h3,(World.frozen?_of_block (a:=⟨N,1,none⟩) hb).trans h4⟩
theorem Cb.lt {w:World} {N:Nat} {T:TypeId} {cs:List Value} (h:Cb w N T cs):N<w.heap.size:=(Array.getElem?_eq_some_iff.1 h).1
theorem Cb.ext {w w':World} {N:Nat} {T:TypeId} {cs:List Value} (h:Cb w N T cs) (k:Ext w w'):Cb w' N T cs:=(k.block N h.lt).trans h
theorem Cb.new (w:World) (T:TypeId) (cs:List Value):Cb (w.alloc (.cells cs.toArray T)) w.heap.size T cs:=heap_alloc_last w _
theorem Cb.load {w:World} {N:Nat} {T:TypeId} {cs:List Value} (h:Cb w N T cs) (ty:TypeId) (d:TypeDesc) (hu:Tryz.prog.underlying ty=some d) (hd:d.isRow=true) (hi:(Tryz.prog.info? ty).map (·.size)=some cs.length) :
  (Instr.loadAt ty (.pointer (some ⟨N,0,none⟩))).run Tryz.prog w = .ok (.agg cs.toArray) w :=
 run_loadAt_mid w N 0 ty cs d (by have:=World.rangeAt_of_block h 0 cs.length;simpa using this) hu hd hi
theorem Qm (w:World) (T:TypeId) (z:Value) (heap:Bool) (hz:(Tryz.prog.info? T).map (fun i=>i.zero)=some (some z)) :
  (Instr.alloc T heap (.tuple #[])).run Tryz.prog w = .ok (.pointer (some ⟨w.heap.size,0,none⟩)) (w.alloc (.cells z.cells T)):=by
 have h0:(zeroValue T).run Tryz.prog w = .ok z w:=by
  cases hq:Tryz.prog.info? T with
  | none=>simp [hq] at hz
  | some i=>simp [hq] at hz;simp [zeroValue,typeInfo,hq,hz]
 cases heap<;>simp [Instr.alloc,Sem.run_bind,h0,newVar,newRow]
theorem Cb.store {w:World} {N:Nat} {T:TypeId} {cs:List Value} (h:Cb w N T cs) (ty:TypeId) (new:List Value) (hi:(Tryz.prog.info? ty).map (·.size)=some new.length) (hl:cs.length=new.length) (h1:∀ v∈new,v.oneCell'=true) :
  (Instr.storeAt ty (.pointer (some ⟨N,0,none⟩)) (.agg new.toArray)).run Tryz.prog w = .ok () (w.setRow N new.toArray):=by
 simp only [Instr.storeAt,Instr.sureAddr,Sem.run_bind,Sem.run_pure,Result.andThen_ok]
 exact run_storeVar_row w N T ty cs.toArray new.toArray h (by simpa using hi) (by simpa using hl) (all_oneCell_toArray h1)
theorem Cb.put {w:World} {N:Nat} {T:TypeId} {cs:List Value} (h:Cb w N T cs) (new:List Value):Cb (w.setRow N new.toArray) N T new:=setRow_heap w N _ _ T _ h
theorem Cb.other {w:World} {M:Nat} {T:TypeId} {cs:List Value} (h:Cb w M T cs) (N:Nat) (new:Array Value) (hne:M≠N):Cb (w.setRow N new) M T cs:=(setRow_other w N M new hne).trans h
theorem Kp.put {w:World} {N:Nat} {T:TypeId} {cs:List Value} (h:Cb w N T cs) (hn:∀ c∈cs,gF c) (new:Array Value):Kp w (w.setRow N new):=by
 refine ⟨by simp,fun a k e=>?_⟩
 by_cases hb:a.block=N
 · exfalso
   subst hb
   unfold World.cell? at e
   rw [show w.heap[a.block]?=_ from h] at e
   simp at e
   exact hn _ (List.mem_of_getElem? e.2) k rfl
 · rw [cell_setRow_other w N new a hb];exact e
end Go.Proofs.YtfhcmggpojhegaaGreatDoor
/- Limbs read out of a natural; variables that a function value holds. -/
namespace Go.Proofs.YtfhcmggpojhegaaGreatDoor
open Go.RowKit
set_option linter.all false
set_option maxRecDepth 100000
set_option maxHeartbeats 8000000
section
variable {L:List Oper} {S:World→Prop} {K:List (Nat × Value)→World→Prop} {k:Bool} {i m d:Nat} {o:Oper} {x:Operand} {r:List (Bool × Nat × Nat)} {l:List (Nat × Value)} {w:World}
theorem aS {T:TypeId} {y:Operand} {u p:Value} {j:Int} (hS:S w) (ho:Pl.nth L i=some o) (hp:o.op = .indexAddr T x y) (hd:o.dst=some d) (hg:Pl.gd L l o.guard=some true) (hx:Pl.dF l x=some u) (hy:Pl.dF l y=some (.int .i64 j))
  (hr:∀ X,(Instr.indexAt T u (.int .i64 j)).run Tryz.prog X = .ok p X)
  (h:Pl.dO Tryz.prog L S K r ((d,p)::l) w):Pl.dO Tryz.prog L S K ((k,i,m)::r) l w :=
 Pl.dB hS ho hd hg (fun ρ hρ X _=>by
  unfold execOp;rw [hp]
  refine Pl.fJ _ X ?_
  rw [hρ.dF hx,hρ.dF hy]
  exact hr X) h
end
theorem U.at {w:World} {v:Value} {xs:List Nat} (h:U w v xs) {j:Nat} (hj:j<xs.length):∃ p,(∀ X,(Instr.indexAt 22 v (.int .i64 (j:Int))).run Tryz.prog X = .ok p X)∧∀ X,Ext w X→(Instr.loadAt 27 p).run Tryz.prog X = .ok (.int .u32 (lb xs j:Nat)) X:=by
 obtain ⟨A,c,rfl,hc,hx,hr⟩:=h
 obtain ⟨ad,rfl,hb,hcell⟩:=hr (by omega)
 have h1:(j:Int)<(xs.length:Int):=by omega
 have h0:(0:Int)≤(j:Int):=by omega
 refine ⟨.pointer (some (ad.add j)),fun X=>?_,fun X hX=>?_⟩
 · clear hcell hb hx hc
   go_simp
 · have hq:=(hX.cell (p:=ad.add j) (by rw [aJ];exact hb)).trans (hcell j hj)
   clear hcell
   generalize ad.add j=q at *
   go_simp
theorem Cb.cell {w:World} {N:Nat} {T:TypeId} {v:Value} (h:Cb w N T [v]):w.cell? ⟨N,0,none⟩=some v:=by
 rw [cell_of_row w N 0 #[v] T (0,0) h];rfl
theorem Cb.int {w:World} {N:Nat} {T:TypeId} {z:Int} (h:Cb w N T [.int .i64 z]):(Instr.loadAt 3 (.pointer (some ⟨N,0,none⟩))).run Tryz.prog w = .ok (.int .i64 z) w:=by
 have hc:=h.cell
 clear h
 go_simp
theorem Cb.limbs {w:World} {N:Nat} {T:TypeId} {v:Value} (h:Cb w N T [v]):(Instr.loadAt 22 (.pointer (some ⟨N,0,none⟩))).run Tryz.prog w = .ok v w:=by
 have hc:=h.cell
 clear h
 go_simp
theorem VF {y x0 by':Nat} (h:by'≤32):(y*2^32+x0)/2^(32-by')=y*2^by'+x0/2^(32-by'):=by
 have e:(2:Nat)^32=2^by'*2^(32-by'):=by rw [← Nat.pow_add];congr 1;omega
 rw [e,← Nat.mul_assoc,Nat.mul_comm _ (2^(32-by')),Nat.mul_add_div (Nat.two_pow_pos _)]
theorem YD {x0 by':Nat} (h:by'≤32) (hx:x0<2^32):x0/2^(32-by')<2^by':=by
 rw [Nat.div_lt_iff_lt_mul (Nat.two_pow_pos _),← Nat.pow_add]
 rwa [show by'+(32-by')=32 from by omega]
theorem al4 {x y:Operand} {a b i c:Nat} (hb:b<2^i) (e:a*2^i+b=c) (hc:c<18446744073709551616) (X:World):(do eqGuard .or 82 x y (.int .u64 ((a*2^i:Nat):Int)) (.int .u64 (b:Int));binOp .or 82 (.int .u64 ((a*2^i:Nat):Int)) (.int .u64 (b:Int)):Sem Value).run Tryz.prog X = .ok (.int .u64 (c:Int)) X:=by
 have e1:(a*2^i)|||b=c:=by
  rw [← Nat.shiftLeft_eq,← Nat.shiftLeft_add_eq_or_of_lt hb,Nat.shiftLeft_eq,e]
 have e2:bits .or .u64 ((a*2^i:Nat):Int) (b:Int)=(c:Int):=by
  have h1:a*2^i<18446744073709551616:=by omega
  have h2:b<18446744073709551616:=by omega
  rw [← e1]
  generalize a*2^i=t at *
  exact u64_or_nat _ _ h1 h2
 generalize a*2^i=t at *
 clear e1 e hb
 go_simp
end Go.Proofs.YtfhcmggpojhegaaGreatDoor
/- A limb, or 0 beyond them. -/
namespace Go.Proofs.YtfhcmggpojhegaaGreatDoor
open Go.RowKit
set_option linter.all false
set_option maxRecDepth 100000
set_option maxHeartbeats 8000000
namespace EQJ
set_option linter.all false
set_option maxRecDepth 100000
set_option maxHeartbeats 8000000
end EQJ
open EQJ
theorem U.ahk {w:World} {v:Value} {xs:List Nat} (h:U w v xs):∀ x∈xs,x<4294967296:=by obtain ⟨_,_,_,_,hx,_⟩:=h;exact hx
theorem uu {a:Nat} (ha:a<4294967296) (X:World):(convert 27 82 (.int .u32 (a:Int))).run Tryz.prog X = .ok (.int .u64 (a:Int)) X:=by
 have w1:=Ep (c:=a) (by omega)
 go_simp
theorem Qn (w:World) (N:Nat) (T:TypeId) (v:Value) (xs:List Nat) (j:Nat) (hN:Cb w N T [v]) (hu:U w v xs) (hj:j<xs.length) :
  Calls Tryz.prog 197 #[.int .i64 (j:Int),.pointer (some ⟨N,0,none⟩)] w fun e w'=>e = .returned (.int .u64 (lb xs j:Nat))∧Ext w w':=by
 have hx:=U.ahk hu
 obtain ⟨A,c,rfl,-⟩:=id hu
 refine Pl.aZ (n:=13) (vs:=[.int .i64 (j:Int),.pointer (some ⟨N,0,none⟩)]) Tryz.func197 rfl (by kernel_rfl) (by simp) ?_
 refine Pl.ay ?_
 refine Pl.ak (by kernel_rfl) ?_
 refine Pl.aF trivial rfl rfl rfl rfl rfl ?_
 refine Pl.aj ?_
 refine Pl.ay ?_
 refine Pl.ay ?_
 refine Pl.ak (by kernel_rfl) ?_
 refine Pl.aA trivial rfl rfl rfl rfl rfl ?_
 refine Pl.aH trivial rfl rfl rfl rfl rfl (Cb.limbs hN) ?_
 refine eT trivial rfl rfl rfl rfl rfl ?_
 refine Pl.aN (v:=(.bool true)) trivial rfl rfl rfl rfl rfl rfl (fun X=>jc (decide_eq_true (by omega)) X) ?_
 refine Pl.aj ?_
 refine Pl.cK rfl ?_
 refine Pl.ay ?_
 refine Pl.ak (by kernel_rfl) ?_
 refine Pl.aH trivial rfl rfl rfl rfl rfl (Cb.limbs hN) ?_
 refine Pl.aA trivial rfl rfl rfl rfl rfl ?_
 obtain ⟨p_1,ar3,ar4⟩:=U.at hu hj
 refine aS trivial rfl rfl rfl rfl rfl rfl ar3 ?_
 refine Pl.aH trivial rfl rfl rfl rfl rfl (ar4 _ (Ext.refl _)) ?_
 refine og (v:=(.int .u64 ((lb xs j:Nat):Int))) trivial rfl rfl rfl rfl rfl (fun X=>uu (eU hx j) X) ?_
 refine Pl.aF trivial rfl rfl rfl rfl rfl ?_
 refine Pl.aj ?_
 refine Pl.bI rfl rfl ?_
 exact ⟨rfl,Ext.refl _⟩
theorem NC (w:World) (N:Nat) (T:TypeId) (v:Value) (xs:List Nat) (j:Nat) (hN:Cb w N T [v]) (hu:U w v xs) (hj:¬ j<xs.length) :
  Calls Tryz.prog 197 #[.int .i64 (j:Int),.pointer (some ⟨N,0,none⟩)] w fun e w'=>e = .returned (.int .u64 (lb xs j:Nat))∧Ext w w':=by
 have hx:=U.ahk hu
 obtain ⟨A,c,rfl,-⟩:=id hu
 refine Pl.aZ (n:=13) (vs:=[.int .i64 (j:Int),.pointer (some ⟨N,0,none⟩)]) Tryz.func197 rfl (by kernel_rfl) (by simp) ?_
 refine Pl.ay ?_
 refine Pl.ak (by kernel_rfl) ?_
 refine Pl.aF trivial rfl rfl rfl rfl rfl ?_
 refine Pl.aj ?_
 refine Pl.ay ?_
 refine Pl.ay ?_
 refine Pl.ak (by kernel_rfl) ?_
 refine Pl.aA trivial rfl rfl rfl rfl rfl ?_
 refine Pl.aH trivial rfl rfl rfl rfl rfl (Cb.limbs hN) ?_
 refine eT trivial rfl rfl rfl rfl rfl ?_
 refine Pl.aN (v:=(.bool false)) trivial rfl rfl rfl rfl rfl rfl (fun X=>jc (decide_eq_false (by omega)) X) ?_
 refine Pl.aj ?_
 refine Pl.bn rfl ?_
 refine Pl.bM ?_
 refine Pl.ay ?_
 refine Pl.ak (by kernel_rfl) ?_
 refine Pl.aF trivial rfl rfl rfl rfl rfl ?_
 refine Pl.aj ?_
 refine Pl.bI rfl rfl ?_
 exact ⟨by rw [nN (Nat.le_of_not_lt hj)];rfl,Ext.refl _⟩
theorem Lh (w:World) (N:Nat) (T:TypeId) (v:Value) (xs:List Nat) (j:Nat) (hN:Cb w N T [v]) (hu:U w v xs) :
  Calls Tryz.prog 197 #[.int .i64 (j:Int),.pointer (some ⟨N,0,none⟩)] w fun e w'=>e = .returned (.int .u64 (lb xs j:Nat))∧Ext w w':=by
 by_cases hj:j<xs.length
 · exact Qn w N T v xs j hN hu hj
 · exact NC w N T v xs j hN hu hj
end Go.Proofs.YtfhcmggpojhegaaGreatDoor
/- The leading bits of one number. -/
namespace Go.Proofs.YtfhcmggpojhegaaGreatDoor
open Go.RowKit
set_option linter.all false
set_option maxRecDepth 100000
set_option maxHeartbeats 8000000
namespace EQK
set_option linter.all false
set_option maxRecDepth 100000
set_option maxHeartbeats 8000000
theorem YE (u:Array Value) (X:World):(callFunc 197 u).run Tryz.prog X = .ok (.enter 197 u) X:=Pl.enters Tryz.func197 (by kernel_rfl) rfl u X
end EQK
open EQK
section
variable {L:List Oper} {S:World→Prop} {K:List (Nat × Value)→World→Prop} {k:Bool} {i m d:Nat} {o:Oper} {x:Operand} {r:List (Bool × Nat × Nat)} {l:List (Nat × Value)} {w:World} {A:Option Addr} {n c:Nat}
theorem ar5 {T:TypeId} (ho:Pl.nth L i=some o) (hp:o.op = .box T x) (hd:o.dst=some d) (hg:o.guard=none) (hx:Pl.dF l x=some (.slice A n c)) (hS:∀ Y,Ext w Y→S Y)
  (h:∀ N w',Ext w w'→Cb w' N T [.slice A n c]→Pl.dO Tryz.prog L S K r ((d,.pointer (some ⟨N,0,none⟩))::l) w'):Pl.dO Tryz.prog L S K ((false,i,m)::r) l w:=by
 have e1:=(Ext.refl w).alloc (.cells #[.slice A n c] T)
 refine Pl.mh (w':=w.alloc (.cells #[.slice A n c] T)) (v:=.pointer (some ⟨w.heap.size,0,none⟩)) ho hd (by rw [hg];rfl) (fun ρ hρ=>?_) (hS _ e1) (h _ _ e1 (Cb.new w T [.slice A n c]))
 unfold execOp;rw [hp]
 refine Pl.kJ _ ?_
 rw [hρ.dF hx]
 go_simp
end
section
variable {x y:Operand}
theorem YF (a s:Nat):((a:Nat):Int)*2^s=((a*2^s:Nat):Int):=by rw [Int.natCast_mul,Int.natCast_pow];rfl
theorem Li (a s:Nat):((a:Nat):Int)/2^s=((a/2^s:Nat):Int):=by rw [Int.natCast_ediv,Int.natCast_pow];rfl
theorem al5 {a s:Nat} (hs:s≤32) (h:a*2^s<18446744073709551616) (X:World):(do eqGuard .shl 82 x y (.int .u64 (a:Int)) (.int .i64 (s:Int));binOp .shl 82 (.int .u64 (a:Int)) (.int .i64 (s:Int)):Sem Value).run Tryz.prog X = .ok (.int .u64 ((a*2^s:Nat):Int)) X:=by
 have e:=YF a s
 have w1:=Ep h
 have h0:¬ ((s:Int)<0):=by omega
 have h1:¬ (64≤s):=by omega
 have h2:(s:Int).toNat=s:=by omega
 clear h
 generalize a*2^s=c at *
 go_simp
theorem al6 {a s:Nat} (hs:s≤32) (h:a<18446744073709551616) (X:World):(do eqGuard .shr 82 x y (.int .u64 (a:Int)) (.int .i64 (s:Int));binOp .shr 82 (.int .u64 (a:Int)) (.int .i64 (s:Int)):Sem Value).run Tryz.prog X = .ok (.int .u64 ((a/2^s:Nat):Int)) X:=by
 have e:=Li a s
 have hc:=Nat.div_le_self a (2^s)
 have w1:=Ep (c:=a/2^s) (by omega)
 have h0:¬ ((s:Int)<0):=by omega
 have h1:¬ (64≤s):=by omega
 have h2:(s:Int).toNat=s:=by omega
 clear h hc
 generalize a/2^s=c at *
 go_simp
theorem ahl {a:Nat} {z:Int} (hz:z=32) (h:a*2^32<18446744073709551616) (X:World):(do eqGuard .shl 82 x y (.int .u64 (a:Int)) (.int .u64 z);binOp .shl 82 (.int .u64 (a:Int)) (.int .u64 z):Sem Value).run Tryz.prog X = .ok (.int .u64 ((a*2^32:Nat):Int)) X:=by
 subst hz
 have e:(a:Int)*4294967296=((a*2^32:Nat):Int):=by omega
 have w1:=Ep h
 clear h
 generalize a*2^32=c at *
 go_simp
end
theorem Qo (w:World) (N M:Nat) (T R:TypeId) (v:Value) (xs:List Nat) (n by':Nat) (hu:U w v xs) (hN:Cb w N T [.int .i64 (n:Int)]) (hM:Cb w M R [.int .i64 (by':Int)]) (hn:3≤n∧n≤1000000) (hby:by'≤32∧0<1) (h64:(lb xs (n-1)*2^32+lb xs (n-2))*2^by'<18446744073709551616) (hbig:(lb xs (n-1)*2^32+lb xs (n-2))*2^by'+lb xs (n-3)/2^(32-by')<18446744073709551616) :
  Calls Tryz.prog 196 #[v,.pointer (some ⟨N,0,none⟩),.pointer (some ⟨M,0,none⟩)] w fun e w'=>e = .returned (.int .u64 ((lb xs (n-1)*2^32+lb xs (n-2))*2^by'+lb xs (n-3)/2^(32-by'):Nat))∧Ext w w':=by
 have hx:=U.ahk hu
 have ha:=eU hx (n-1)
 have hb:=eU hx (n-2)
 have hc:=eU hx (n-3)
 refine Pl.aZ (n:=27) (vs:=[v,.pointer (some ⟨N,0,none⟩),.pointer (some ⟨M,0,none⟩)]) Tryz.func196 rfl (by kernel_rfl) (by simp) ?_
 refine Pl.ay ?_
 refine Pl.ak (by kernel_rfl) ?_
 obtain ⟨A_1,c_1,rfl,-⟩:=id hu
 refine ar5 rfl rfl rfl rfl rfl (fun _ _=>trivial) ?_
 intro N1 w1 hB1 ib1
 refine Pl.aF trivial rfl rfl rfl rfl rfl ?_
 refine Pl.aj ?_
 refine Pl.ay ?_
 refine Pl.ak (by kernel_rfl) ?_
 refine Pl.nZ trivial rfl rfl rfl rfl rfl rfl ?_
 refine Pl.aF trivial rfl rfl rfl rfl rfl ?_
 refine Pl.aj ?_
 refine Pl.ay ?_
 refine Pl.iJ (S:=fun X=>Ext w1 X) [(true,0,0),(true,1,1),(true,2,3),(true,5,7),(true,6,39),(true,7,103),(true,10,231),(true,12,1255),(true,13,5351),(true,14,13543),(true,16,29927),(true,17,95463),(false,3,226535),(true,4,226543),(false,8,226559),(true,9,226815),(true,11,227327),(false,15,229375),(true,18,262143),(true,19,524287),(true,20,1048575)] fo Pl.aB (by kernel_rfl) (Ext.drew (Ext.refl w1)) ?_
 generalize w1.drew=w2
 intro hB2
 have hS2:=hB2
 refine Pl.aA hS2 rfl rfl rfl rfl rfl ?_
 refine Pl.aX hS2 rfl rfl rfl rfl rfl (fun X hX=>Cb.int (Cb.ext (Cb.ext hN hB1) hX)) ?_
 refine Pl.aN (v:=(.int .i64 ((n-1:Nat):Int))) hS2 rfl rfl rfl rfl rfl rfl (fun X=>JJ (by omega) (by omega) (by omega) X) ?_
 refine Pl.aA hS2 rfl rfl rfl rfl rfl ?_
 refine Pl.aX hS2 rfl rfl rfl rfl rfl (fun X hX=>Cb.int (Cb.ext (Cb.ext hN hB1) hX)) ?_
 refine Pl.aN (v:=(.int .i64 ((n-2:Nat):Int))) hS2 rfl rfl rfl rfl rfl rfl (fun X=>JJ (by omega) (by omega) (by omega) X) ?_
 refine Pl.aX hS2 rfl rfl rfl rfl rfl (fun X hX=>Cb.int (Cb.ext (Cb.ext hM hB1) hX)) ?_
 refine Pl.aA hS2 rfl rfl rfl rfl rfl ?_
 refine Pl.aX hS2 rfl rfl rfl rfl rfl (fun X hX=>Cb.int (Cb.ext (Cb.ext hN hB1) hX)) ?_
 refine Pl.aN (v:=(.int .i64 ((n-3:Nat):Int))) hS2 rfl rfl rfl rfl rfl rfl (fun X=>JJ (by omega) (by omega) (by omega) X) ?_
 refine Pl.aX hS2 rfl rfl rfl rfl rfl (fun X hX=>Cb.int (Cb.ext (Cb.ext hM hB1) hX)) ?_
 refine Pl.aN (v:=(.int .i64 ((32-by':Nat):Int))) hS2 rfl rfl rfl rfl rfl rfl (fun X=>JJ (by omega) (by omega) (by omega) X) ?_
 have YG:=Cb.ext ib1 hB2
 have afF:=U.below hu (Ext.below hB1 hB2)
 refine Pl.gG rfl rfl rfl rfl rfl rfl YE ?_
 refine Calls.mono (Lh _ N1 _ _ xs (n-1) YG afF) ?_
 rintro e w3 ⟨rfl,hB3⟩
 have Cu:=Ext.below hS2 hB3
 refine ⟨_,rfl,Cu,?_⟩
 refine Pl.aN (v:=(.int .u64 ((lb xs (n-1)*2^32:Nat):Int))) Cu rfl rfl rfl rfl rfl rfl (fun X=>ahl (by decide) (by omega) X) ?_
 have FU:=Cb.ext YG hB3
 have afG:=U.below afF hB3
 refine Pl.gG rfl rfl rfl rfl rfl rfl YE ?_
 refine Calls.mono (Lh _ N1 _ _ xs (n-2) FU afG) ?_
 rintro e w4 ⟨rfl,hB4⟩
 have mo:=Ext.below Cu hB4
 refine ⟨_,rfl,mo,?_⟩
 refine Pl.aN (v:=(.int .u64 ((lb xs (n-1)*2^32+lb xs (n-2):Nat):Int))) mo rfl rfl rfl rfl rfl rfl (fun X=>al4 (i:=32) (by omega) rfl (by omega) X) ?_
 refine Pl.aN (v:=(.int .u64 (((lb xs (n-1)*2^32+lb xs (n-2))*2^by':Nat):Int))) mo rfl rfl rfl rfl rfl rfl (fun X=>al5 hby.1 h64 X) ?_
 have Qp:=Cb.ext FU hB4
 have al7:=U.below afG hB4
 refine Pl.gG rfl rfl rfl rfl rfl rfl YE ?_
 refine Calls.mono (Lh _ N1 _ _ xs (n-3) Qp al7) ?_
 rintro e w5 ⟨rfl,dJ⟩
 have hS5:=Ext.below mo dJ
 refine ⟨_,rfl,hS5,?_⟩
 refine Pl.aN (v:=(.int .u64 ((lb xs (n-3)/2^(32-by'):Nat):Int))) hS5 rfl rfl rfl rfl rfl rfl (fun X=>al6 (by omega) (by omega) X) ?_
 refine Pl.aN (v:=(.int .u64 (((lb xs (n-1)*2^32+lb xs (n-2))*2^by'+lb xs (n-3)/2^(32-by'):Nat):Int))) hS5 rfl rfl rfl rfl rfl rfl (fun X=>al4 (YD hby.1 hc) rfl hbig X) ?_
 refine Pl.aF hS5 rfl rfl rfl rfl rfl ?_
 refine Pl.aj ?_
 refine Pl.bI rfl rfl ?_
 exact ⟨rfl,(Ext.below hB1 (Ext.below hB2 (Ext.below hB3 (Ext.below hB4 dJ))))⟩
end Go.Proofs.YtfhcmggpojhegaaGreatDoor
/- How many leading bits are 0; what the leading bits are. -/
namespace Go.Proofs.YtfhcmggpojhegaaGreatDoor
open Go.RowKit
set_option linter.all false
set_option maxRecDepth 100000
set_option maxHeartbeats 8000000
namespace EQL
set_option linter.all false
set_option maxRecDepth 100000
set_option maxHeartbeats 8000000
theorem al8 (u:Array Value) (X:World):(callFunc 81 u).run Tryz.prog X = .ok (.enter 81 u) X:=Pl.enters Tryz.func81 (by kernel_rfl) rfl u X
end EQL
open EQL
theorem adJ (w:World) (x:Nat) (h:x<4294967296):Calls Tryz.prog 81 #[.int .u32 (x:Int)] w fun e w'=>e = .returned (.int .i64 (aU x:Nat))∧Ext w w' :=
 (vK w x h).mono fun e w' ⟨he,hw⟩=>⟨he,hw ▸ Ext.refl w⟩
theorem al9 {x:Nat} (h:x<4294967296):aU x≤32:=aT (k:=32) h
theorem YH {m n by':Nat} (hn:3≤n) (hm:m<4294967296^n) (hb:by'≤32) :
  (lb (limbs m) (n-1)*2^32+lb (limbs m) (n-2))*2^by'+lb (limbs m) (n-3)/2^(32-by')=m/2^(32*(n-3)+(32-by')):=by
 obtain ⟨k,rfl⟩:∃ k,n=k+3:=⟨n-3,by omega⟩
 have e0:(4294967296:Nat)=2^32:=by decide
 have h1:m/4294967296^k<4294967296^3:=by
  rw [Nat.div_lt_iff_lt_mul (Nat.pow_pos (by decide)),← Nat.pow_add,Nat.add_comm 3 k];exact hm
 have d1:m/4294967296^(k+1)=m/4294967296^k/4294967296:=by rw [Nat.div_div_eq_div_mul,← Nat.pow_succ]
 have d2:m/4294967296^(k+2)=m/4294967296^k/4294967296/4294967296:=by rw [← d1,Nat.div_div_eq_div_mul,← Nat.pow_succ]
 rw [Nat.pow_add 2,Nat.pow_mul 2 32,← Nat.div_div_eq_div_mul]
 rw [r9,r9,r9,show k+3-1=k+2 from rfl,show k+3-2=k+1 from rfl,show k+3-3=k from rfl,d1,d2,← VF hb,← e0]
 congr 1
 generalize m/4294967296^k=h at *
 omega
theorem Cv {m a n:Nat} (hn:3≤n) (hl:(limbs a).length=n) (hm:m≤a):m/2^(32*(n-3)+(32-(32-aU (lb (limbs a) (n-1)))))<18446744073709551616:=by
 have ha:a≠0:=by rintro rfl;rw [bf] at hl;simp at hl;omega
 have hb:=FV a ha
 rw [hl] at hb
 have h2:=dW a
 have h32:aU (lb (limbs a) (n-1))≤32:=aT (k:=32) (eU (fun x hx=>jd a x hx) _)
 rw [Nat.div_lt_iff_lt_mul (Nat.two_pow_pos _),show (18446744073709551616:Nat)=2^64 from by decide,← Nat.pow_add]
 refine Nat.lt_of_le_of_lt hm (Nat.lt_of_lt_of_le h2 (Nat.pow_le_pow_right (by decide) ?_))
 omega
theorem Qq (w:World) (x:Nat) (hx:x<4294967296) :
  Calls Tryz.prog 195 #[.int .u32 (x:Int)] w fun e w'=>e = .returned (.int .i64 (32-aU x:Nat))∧Ext w w':=by
 have h32:=al9 hx
 refine Pl.aZ (n:=6) (vs:=[.int .u32 (x:Int)]) Tryz.func195 rfl (by kernel_rfl) (by simp) ?_
 refine Pl.ay ?_
 refine Pl.ak (by kernel_rfl) ?_
 refine Pl.aF trivial rfl rfl rfl rfl rfl ?_
 refine Pl.aj ?_
 refine Pl.ay ?_
 refine Pl.ak (by kernel_rfl) ?_
 refine Pl.aA trivial rfl rfl rfl rfl rfl ?_
 refine Pl.az rfl rfl rfl rfl rfl al8 ?_
 refine Calls.mono (adJ _ x hx) ?_
 rintro e w1 ⟨rfl,hB1⟩
 refine ⟨_,rfl,trivial,?_⟩
 refine Pl.aN (v:=(.int .i64 ((32-aU x:Nat):Int))) trivial rfl rfl rfl rfl rfl rfl (fun X=>JJ (by omega) (by omega) (by omega) X) ?_
 refine Pl.aF trivial rfl rfl rfl rfl rfl ?_
 refine Pl.aj ?_
 refine Pl.bI rfl rfl ?_
 exact ⟨rfl,hB1⟩
end Go.Proofs.YtfhcmggpojhegaaGreatDoor
/- The leading bits of both numbers. -/
namespace Go.Proofs.YtfhcmggpojhegaaGreatDoor
open Go.RowKit
set_option linter.all false
set_option maxRecDepth 100000
set_option maxHeartbeats 8000000
namespace EQM
set_option linter.all false
set_option maxRecDepth 100000
set_option maxHeartbeats 8000000
theorem ama (u:Array Value) (X:World):(callFunc 195 u).run Tryz.prog X = .ok (.enter 195 u) X:=Pl.enters Tryz.func195 (by kernel_rfl) rfl u X
theorem afH (u:Array Value) (X:World):(callFunc 196 u).run Tryz.prog X = .ok (.enter 196 u) X:=Pl.enters Tryz.func196 (by kernel_rfl) rfl u X
end EQM
open EQM
theorem Qr (w:World) (z:Int):∃ w1 w',(Instr.alloc 3 true (.tuple #[])).run Tryz.prog w = .ok (.pointer (some ⟨w.heap.size,0,none⟩)) w1∧Ext w w1 ∧
  (Instr.storeAt 3 (.pointer (some ⟨w.heap.size,0,none⟩)) (.int .i64 z)).run Tryz.prog w1 = .ok () w'∧Ext w w'∧Cb w' w.heap.size 3 [.int .i64 z]:=by
 refine ⟨w.alloc (.cells #[.int .i64 0] 3),w.alloc (.cells #[.int .i64 z] 3),?_,(Ext.refl w).alloc _,?_,(Ext.refl w).alloc _,Cb.new w _ _⟩
 · go_simp
 · go_simp
theorem YI {L:List Oper} {S:World→Prop} {K:List (Nat × Value)→World→Prop} {i j m1 m2 d:Nat} {o1 o2:Oper} {x:Operand} {r:List (Bool × Nat × Nat)} {l:List (Nat × Value)} {w:World} {z:Int}
  (ho1:Pl.nth L i=some o1) (hp1:o1.op = .alloc 3) (hd1:o1.dst=some d) (hg1:o1.guard=none)
  (ho2:Pl.nth L j=some o2) (hp2:o2.op = .store 3 (.tmp d) x) (hd2:o2.dst=none) (hg2:o2.guard=none)
  (hx:∀ p,Pl.dF ((d,p)::l) x=some (.int .i64 z)) (hS:∀ Y,Ext w Y→S Y)
  (h:∀ N w',Ext w w'→Cb w' N 3 [.int .i64 z]→Pl.dO Tryz.prog L S K r ((d,.pointer (some ⟨N,0,none⟩))::l) w'):Pl.dO Tryz.prog L S K ((false,i,m1)::(false,j,m2)::r) l w:=by
 obtain ⟨w1,w',h1,e1,h2,e2,hI⟩:=Qr w z
 refine Pl.sM ho1 hp1 hd1 (by rw [hg1];rfl) h1 (hS _ e1) ?_
 refine Pl.aW ho2 hp2 hd2 (by rw [hg2];rfl) ?_ (hx _) h2 (hS _ e2) (h _ _ e2 hI)
 exact VC _ _ _
theorem YJ (w:World) (N M:Nat) (T R:TypeId) (v:Value) (m n by':Nat) (hu:U w v (limbs m)) (hN:Cb w N T [.int .i64 (n:Int)]) (hM:Cb w M R [.int .i64 (by':Int)]) (hn:3≤n∧n≤1000000) (hby:by'≤32)
  (hm:m<4294967296^n) (hf:m/2^(32*(n-3)+(32-by'))<18446744073709551616) :
  Calls Tryz.prog 196 #[v,.pointer (some ⟨N,0,none⟩),.pointer (some ⟨M,0,none⟩)] w fun e w'=>e = .returned (.int .u64 (m/2^(32*(n-3)+(32-by')):Nat))∧Ext w w':=by
 have e:=YH hn.1 hm hby
 rw [← e] at hf ⊢
 exact Qo w N M T R v (limbs m) n by' hu hN hM hn ⟨hby,by decide⟩ (Nat.lt_of_le_of_lt (Nat.le_add_right _ _) hf) hf
theorem Qs (w:World) (va vb:Value) (a b:Nat) (ha:Un w va a) (hb:Un w vb b) (hn:3≤(limbs a).length∧(limbs a).length≤1000000) (hba:b≤a) :
  Calls Tryz.prog 173 #[va,vb] w fun e w'=>e = .returned (.tuple #[.int .u64 (a/2^(32*((limbs a).length-3)+(32-(32-aU (lb (limbs a) ((limbs a).length-1))))):Nat),.int .u64 (b/2^(32*((limbs a).length-3)+(32-(32-aU (lb (limbs a) ((limbs a).length-1))))):Nat)])∧Ext w w':=by
 have hx:=jd a
 have hma:a<4294967296^(limbs a).length:=dX (Nat.le_refl _)
 have hmb:b<4294967296^(limbs a).length:=Nat.lt_of_le_of_lt hba hma
 have hfa:=Cv hn.1 rfl (Nat.le_refl a)
 have hfb:=Cv hn.1 rfl hba
 refine Pl.aZ (n:=24) (vs:=[va,vb]) Tryz.func173 rfl (by kernel_rfl) (by simp) ?_
 refine Pl.ay ?_
 refine Pl.ak (by kernel_rfl) ?_
 refine Pl.aF trivial rfl rfl rfl rfl rfl ?_
 refine Pl.aF trivial rfl rfl rfl rfl rfl ?_
 refine Pl.aj ?_
 refine Pl.ay ?_
 refine Pl.ak (by kernel_rfl) ?_
 refine Pl.aA trivial rfl rfl rfl rfl rfl ?_
 obtain ⟨A,c,rfl,-⟩:=Un.sh ha
 refine eT trivial rfl rfl rfl rfl rfl ?_
 refine YI rfl rfl rfl rfl rfl rfl rfl rfl (fun _=>rfl) (fun _ _=>trivial) ?_
 intro N1 w1 hB1 ib1
 refine Pl.aj ?_
 refine Pl.ay ?_
 refine Pl.ak (by kernel_rfl) ?_
 refine Pl.aA trivial rfl rfl rfl rfl rfl ?_
 refine Pl.aH trivial rfl rfl rfl rfl rfl (Cb.int ib1) ?_
 refine Pl.aN (v:=(.int .i64 (((limbs a).length-1:Nat):Int))) trivial rfl rfl rfl rfl rfl rfl (fun X=>JJ (by omega) (by omega) (by omega) X) ?_
 have TR:=U.below ha hB1
 obtain ⟨p_2,ar6,hl_2⟩:=U.at TR (show (limbs a).length-1<(limbs a).length by omega)
 refine aS trivial rfl rfl rfl rfl rfl rfl ar6 ?_
 refine Pl.aH trivial rfl rfl rfl rfl rfl (hl_2 _ (Ext.refl _)) ?_
 refine Pl.az rfl rfl rfl rfl rfl ama ?_
 refine Calls.mono (Qq _ (lb (limbs a) ((limbs a).length-1)) (eU hx ((limbs a).length-1))) ?_
 rintro e w2 ⟨rfl,hB2⟩
 refine ⟨_,rfl,trivial,?_⟩
 refine YI rfl rfl rfl rfl rfl rfl rfl rfl (fun _=>rfl) (fun _ _=>trivial) ?_
 intro N3 w3 hB3 ib3
 refine Pl.aj ?_
 refine Pl.ay ?_
 refine Pl.ak (by kernel_rfl) ?_
 refine Pl.nZ trivial rfl rfl rfl rfl rfl rfl ?_
 refine Pl.aF trivial rfl rfl rfl rfl rfl ?_
 refine Pl.aj ?_
 refine Pl.ay ?_
 refine Pl.ak (by kernel_rfl) ?_
 refine Pl.aA trivial rfl rfl rfl rfl rfl ?_
 refine Pl.aA trivial rfl rfl rfl rfl rfl ?_
 have amb:=U.below TR (Ext.below hB2 hB3)
 have FU:=Cb.ext ib1 (Ext.below hB2 hB3)
 refine Pl.gG rfl rfl rfl rfl rfl rfl afH ?_
 refine Calls.mono (YJ _ N1 N3 _ _ _ a (limbs a).length (32-aU (lb (limbs a) ((limbs a).length-1))) amb FU ib3 hn (Nat.sub_le _ _) hma hfa) ?_
 rintro e w4 ⟨rfl,hB4⟩
 refine ⟨_,rfl,trivial,?_⟩
 refine Pl.aA trivial rfl rfl rfl rfl rfl ?_
 refine Pl.aA trivial rfl rfl rfl rfl rfl ?_
 have amc:=U.below hb (Ext.below hB1 (Ext.below hB2 (Ext.below hB3 hB4)))
 have Qp:=Cb.ext FU hB4
 have ahm:=Cb.ext ib3 hB4
 refine Pl.gG rfl rfl rfl rfl rfl rfl afH ?_
 refine Calls.mono (YJ _ N1 N3 _ _ _ b (limbs a).length (32-aU (lb (limbs a) ((limbs a).length-1))) amc Qp ahm hn (Nat.sub_le _ _) hmb hfb) ?_
 rintro e w5 ⟨rfl,dJ⟩
 refine ⟨_,rfl,trivial,?_⟩
 refine Pl.aF trivial rfl rfl rfl rfl rfl ?_
 refine Pl.aF trivial rfl rfl rfl rfl rfl ?_
 refine Pl.aj ?_
 refine Pl.jy rfl rfl rfl ?_
 exact ⟨rfl,(Ext.below hB1 (Ext.below hB2 (Ext.below hB3 (Ext.below hB4 dJ))))⟩
end Go.Proofs.YtfhcmggpojhegaaGreatDoor
/- One of Euclid's steps on the sizes of cofactors. -/
namespace Go.Proofs.YtfhcmggpojhegaaGreatDoor
open Go.RowKit
set_option linter.all false
set_option maxRecDepth 100000
set_option maxHeartbeats 8000000
namespace EQN
set_option linter.all false
set_option maxRecDepth 100000
set_option maxHeartbeats 8000000
theorem ar7 (u:Array Value) (X:World):(callFunc 17 u).run Tryz.prog X = .ok (.enter 17 u) X:=Pl.enters Tryz.func17 (by kernel_rfl) rfl u X
theorem ar8 (u:Array Value) (X:World):(callFunc 13 u).run Tryz.prog X = .ok (.enter 13 u) X:=Pl.enters Tryz.func13 (by kernel_rfl) rfl u X
end EQN
open EQN
theorem KL (w:World) (vq va vb:Value) (q a b:Nat) (hq:Un w vq q) (ha:Un w va a) (hb:Un w vb b) (hlq:Sn q 100) (hla:Sn a 100) (hlb:Sn b 100) :
  Calls Tryz.prog 124 #[vq,va,vb] w fun e w'=>∃ x y,e = .returned (.tuple #[x,y])∧Un w' x b∧Un w' y (a+q*b)∧Ext w w':=by
 refine Pl.aZ (n:=14) (vs:=[vq,va,vb]) Tryz.func124 rfl (by kernel_rfl) (by simp) ?_
 refine Pl.ay ?_
 refine Pl.ak (by kernel_rfl) ?_
 refine Pl.aF trivial rfl rfl rfl rfl rfl ?_
 refine Pl.aF trivial rfl rfl rfl rfl rfl ?_
 refine Pl.aj ?_
 refine Pl.ay ?_
 refine Pl.ak (by kernel_rfl) ?_
 refine Pl.aA trivial rfl rfl rfl rfl rfl ?_
 refine Pl.aA trivial rfl rfl rfl rfl rfl ?_
 refine Pl.aA trivial rfl rfl rfl rfl rfl ?_
 refine Pl.aA trivial rfl rfl rfl rfl rfl ?_
 refine Pl.az rfl rfl rfl rfl rfl ar7 ?_
 refine Calls.mono (mulN _ _ _ q b _ hq hb (Sn.le hlq (by decide)) (Sn.le hlb (by decide)) rfl) ?_
 rintro e w1 ⟨ar9,rfl,amd,hB1⟩
 refine ⟨_,rfl,trivial,?_⟩
 have ahn:Sn (q*b) 200:=Sn.mul hlq hlb (by decide)
 have TR:=Un.below ha hB1
 refine Pl.az rfl rfl rfl rfl rfl ar8 ?_
 refine Calls.mono (jA _ _ _ a (q*b) TR amd (Sn.le hla (by decide)) (Sn.le ahn (by decide)) _ rfl) ?_
 rintro e w2 ⟨Ao,rfl,Ja,hB2⟩
 refine ⟨_,rfl,trivial,?_⟩
 have aho:Sn (a+(q*b)) 201:=Sn.add hla ahn (by decide) (by decide)
 refine Pl.aF trivial rfl rfl rfl rfl rfl ?_
 refine Pl.aF trivial rfl rfl rfl rfl rfl ?_
 refine Pl.aj ?_
 refine Pl.jy rfl rfl rfl ?_
 have ame:=Un.below hb (Ext.below hB1 hB2)
 exact ⟨_,_,rfl,ame,Ja,(Ext.below hB1 hB2)⟩
end Go.Proofs.YtfhcmggpojhegaaGreatDoor
/- Steps in variables. -/
namespace Go.Proofs.YtfhcmggpojhegaaGreatDoor
open Go.RowKit
set_option linter.all false
set_option maxRecDepth 100000
set_option maxHeartbeats 8000000
namespace EQO
set_option linter.all false
set_option maxRecDepth 100000
set_option maxHeartbeats 8000000
end EQO
open EQO
theorem Cb.cellAt {w:World} {N:Nat} {T:TypeId} {cs:List Value} {v:Value} (h:Cb w N T cs) {j:Nat} (hj:cs[j]?=some v):w.cell? ⟨N,j,none⟩=some v:=by
 rw [cell_of_row w N j cs.toArray T (0,0) h];simpa using hj
theorem Cb.sO {w:World} {N:Nat} {T:TypeId} {cs:List Value} {z:Int} (h:Cb w N T cs) {j:Nat} (hj:cs[j]?=some (.int .u64 z)):(Instr.loadAt 82 (.pointer (some ⟨N,j,none⟩))).run Tryz.prog w = .ok (.int .u64 z) w:=by
 have hc:=h.cellAt hj
 clear h hj
 go_simp
theorem Cb.Lj {w:World} {N:Nat} {T:TypeId} {cs:List Value} {z:Bool} (h:Cb w N T cs) {j:Nat} (hj:cs[j]?=some (.bool z)):(Instr.loadAt 4 (.pointer (some ⟨N,j,none⟩))).run Tryz.prog w = .ok (.bool z) w:=by
 have hc:=h.cellAt hj
 clear h hj
 go_simp
theorem vL (N:Nat) (X:World):(Instr.fieldAt 160 (.pointer (some ⟨N,0,none⟩)) 0).run Tryz.prog X = .ok (.pointer (some ⟨N,0,none⟩)) X:=by go_simp
theorem vM (N:Nat) (X:World):(Instr.fieldAt 160 (.pointer (some ⟨N,0,none⟩)) 1).run Tryz.prog X = .ok (.pointer (some ⟨N,1,none⟩)) X:=by go_simp
theorem sP (N:Nat) (X:World):(Instr.fieldAt 160 (.pointer (some ⟨N,0,none⟩)) 2).run Tryz.prog X = .ok (.pointer (some ⟨N,2,none⟩)) X:=by go_simp
theorem vN (N:Nat) (X:World):(Instr.fieldAt 160 (.pointer (some ⟨N,0,none⟩)) 3).run Tryz.prog X = .ok (.pointer (some ⟨N,3,none⟩)) X:=by go_simp
theorem sQ (N:Nat) (X:World):(Instr.fieldAt 160 (.pointer (some ⟨N,0,none⟩)) 4).run Tryz.prog X = .ok (.pointer (some ⟨N,4,none⟩)) X:=by go_simp
theorem TS {L:List Oper} {S:World→Prop} {K:List (Nat × Value)→World→Prop} {i m d:Nat} {o:Oper} {x:Operand} {r:List (Bool × Nat × Nat)} {l:List (Nat × Value)} {w:World} {T:TypeId} {a b c e f:Value} (ho:Pl.nth L i=some o) (hp:o.op = .box T x) (hd:o.dst=some d) (hg:o.guard=none) (hx:Pl.dF l x=some (.agg #[a,b,c,e,f])) (hS:∀ Y,Ext w Y→S Y)
  (h:∀ N w',Ext w w'→Cb w' N T [a,b,c,e,f]→Pl.dO Tryz.prog L S K r ((d,.pointer (some ⟨N,0,none⟩))::l) w'):Pl.dO Tryz.prog L S K ((false,i,m)::r) l w:=by
 have e1:=(Ext.refl w).alloc (.cells #[a,b,c,e,f] T)
 refine Pl.mh (w':=w.alloc (.cells #[a,b,c,e,f] T)) (v:=.pointer (some ⟨w.heap.size,0,none⟩)) ho hd (by rw [hg];rfl) (fun ρ hρ=>?_) (hS _ e1) (h _ _ e1 (Cb.new w T [a,b,c,e,f]))
 unfold execOp;rw [hp]
 refine Pl.kJ _ ?_
 rw [hρ.dF hx]
 go_simp
abbrev Pf (u0 u1 v0 v1:Nat) (ev:Bool):Value:=.agg #[.int .u64 (u0:Int),.int .u64 (u1:Int),.int .u64 (v0:Int),.int .u64 (v1:Int),.bool ev]
theorem PU (w:World) (u0 u1 v0 v1:Nat) (ev:Bool) :
  Calls Tryz.prog 121 #[Pf u0 u1 v0 v1 ev] w fun e w'=>e = .returned (.bool (decide (v0=0)))∧Ext w w':=by
 refine Pl.aZ (n:=6) (vs:=[Pf u0 u1 v0 v1 ev]) Tryz.func121 rfl (by kernel_rfl) (by simp) ?_
 refine Pl.ay ?_
 refine Pl.ak (by kernel_rfl) ?_
 refine TS rfl rfl rfl rfl rfl (fun _ _=>trivial) ?_
 intro N1 w1 hB1 ib1
 refine Pl.aF trivial rfl rfl rfl rfl rfl ?_
 refine Pl.aj ?_
 refine Pl.ay ?_
 refine Pl.ak (by kernel_rfl) ?_
 refine bL trivial rfl rfl rfl rfl rfl (sP _) ?_
 refine Pl.aH trivial rfl rfl rfl rfl rfl (Cb.sO ib1 rfl) ?_
 refine Pl.aN (v:=(.bool (decide (v0=0)))) trivial rfl rfl rfl rfl rfl rfl (fun X=>al3 (by rw [Bool.eq_iff_iff];simp) X) ?_
 refine Pl.aF trivial rfl rfl rfl rfl rfl ?_
 refine Pl.aj ?_
 refine Pl.bI rfl rfl ?_
 exact ⟨rfl,hB1⟩
end Go.Proofs.YtfhcmggpojhegaaGreatDoor
/- A function value's variables: the iterator of Euclid's rests is made. -/
namespace Go.Proofs.YtfhcmggpojhegaaGreatDoor
open Go.RowKit
set_option linter.all false
set_option maxRecDepth 100000
set_option maxHeartbeats 8000000
section
variable {L:List Oper} {S:World→Prop} {K:List (Nat × Value)→World→Prop} {i m d:Nat} {o:Oper} {x:Operand} {r:List (Bool × Nat × Nat)} {l:List (Nat × Value)} {w:World} {v:Value}
theorem adK {T:TypeId} (hv:v.cells=#[v]) (ho:Pl.nth L i=some o) (hp:o.op = .box T x) (hd:o.dst=some d) (hg:o.guard=none) (hx:Pl.dF l x=some v) (hS:∀ Y,Ext w Y→S Y)
  (h:∀ N w',Ext w w'→w.heap.size≤N→Cb w' N T [v]→Pl.dO Tryz.prog L S K r ((d,.pointer (some ⟨N,0,none⟩))::l) w'):Pl.dO Tryz.prog L S K ((false,i,m)::r) l w:=by
 have e1:=(Ext.refl w).alloc (.cells #[v] T)
 refine Pl.mh (w':=w.alloc (.cells #[v] T)) (v:=.pointer (some ⟨w.heap.size,0,none⟩)) ho hd (by rw [hg];rfl) (fun ρ hρ=>?_) (hS _ e1) (h _ _ e1 (Nat.le_refl _) (Cb.new w T [v]))
 unfold execOp;rw [hp]
 refine Pl.kJ _ ?_
 rw [hρ.dF hx]
 simp [Instr.box,Sem.run_bind,newVar,newRow,hv]
end
theorem uh (w:World) (va vb fe fg:Value) (h1:va.cells=#[va]) (h2:vb.cells=#[vb]) (h3:fe.cells=#[fe]) (h4:fg.cells=#[fg]) :
  Calls Tryz.prog 58 #[va,vb,fe,fg] w fun e w'=>∃ Na Nb Ne Ng,e = .returned (.func (.func 118) #[] #[.pointer (some ⟨Nb,0,none⟩),.pointer (some ⟨Na,0,none⟩),.pointer (some ⟨Ne,0,none⟩),.pointer (some ⟨Ng,0,none⟩)]) ∧
   Cb w' Na 22 [va]∧Cb w' Nb 22 [vb]∧Cb w' Ne 95 [fe]∧Cb w' Ng 98 [fg]∧w.heap.size≤Na∧Na<Nb∧Nb<Ne∧Ne<Ng∧Ext w w':=by
 refine Pl.aZ (n:=10) (vs:=[va,vb,fe,fg]) Tryz.func58 rfl (by kernel_rfl) (by simp) ?_
 refine Pl.ay ?_
 refine Pl.ak (by kernel_rfl) ?_
 refine adK h1 rfl rfl rfl rfl rfl (fun _ _=>trivial) ?_
 intro Na w1 hB1 n1 b1
 refine adK h2 rfl rfl rfl rfl rfl (fun _ _=>trivial) ?_
 intro Nb w2 hB2 n2 b2
 refine adK h3 rfl rfl rfl rfl rfl (fun _ _=>trivial) ?_
 intro Ne w3 hB3 n3 b3
 refine adK h4 rfl rfl rfl rfl rfl (fun _ _=>trivial) ?_
 intro Ng w4 hB4 n4 b4
 refine Pl.aF trivial rfl rfl rfl rfl rfl ?_
 refine Pl.aj ?_
 refine Pl.ay ?_
 refine Pl.ak (by kernel_rfl) ?_
 refine Pl.nZ trivial rfl rfl rfl rfl rfl rfl ?_
 refine Pl.aF trivial rfl rfl rfl rfl rfl ?_
 refine Pl.aj ?_
 refine Pl.bI rfl rfl ?_
 have e3:=b3.lt
 have e2:=b2.lt
 have e1:=b1.lt
 exact ⟨Na,Nb,Ne,Ng,rfl,Cb.ext b1 (hB2.below (hB3.below hB4)),Cb.ext b2 (hB3.below hB4),Cb.ext b3 hB4,b4,n1,by omega,by omega,by omega,hB1.below (hB2.below (hB3.below hB4))⟩
end Go.Proofs.YtfhcmggpojhegaaGreatDoor
/- Function values that do nothing. -/
namespace Go.Proofs.YtfhcmggpojhegaaGreatDoor
open Go.RowKit
set_option linter.all false
set_option maxRecDepth 100000
set_option maxHeartbeats 8000000
theorem IX (w:World) (t n:Value):Calls Tryz.prog 60 #[t,n] w fun e w'=>e = .returned (.tuple #[])∧w'=w:=by
 refine Pl.aZ (n:=4) (vs:=[t,n]) Tryz.func60 rfl (by kernel_rfl) (by simp) ?_
 exact Pl.bM (Pl.kV rfl ⟨rfl,rfl⟩)
theorem IW (w:World) (q:Value):Calls Tryz.prog 59 #[q] w fun e w'=>e = .returned (.tuple #[])∧w'=w:=by
 refine Pl.aZ (n:=2) (vs:=[q]) Tryz.func59 rfl (by kernel_rfl) (by simp) ?_
 exact Pl.bM (Pl.kV rfl ⟨rfl,rfl⟩)
end Go.Proofs.YtfhcmggpojhegaaGreatDoor
