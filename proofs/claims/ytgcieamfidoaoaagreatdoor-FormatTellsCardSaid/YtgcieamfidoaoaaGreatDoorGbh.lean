/- Base. -/
import Derived.Test.YtgcieamfidoaoaaGreatDoorGbg
set_option linter.all false
set_option maxHeartbeats 8000000
set_option maxRecDepth 100000
namespace Go.Proofs.YtgcieamfidoaoaaGreatDoor
open Pl Go.Proofs.Tryz
open Go.RowKit
def Cb (w:World) (N:Nat) (T:TypeId) (cs:List Value):Prop:=w.heap[N]?=some (.cells cs.toArray T (0,0))
def zB (c:Value):Prop:=∀ k,c≠.int .u32 k
def Kp (w w':World):Prop:=w.heap.size≤w'.heap.size∧∀ a k,w.cell? a=some (.int .u32 k)→w'.cell? a=some (.int .u32 k)
theorem Kp.trans {a b c:World} (h:Kp a b) (k:Kp b c):Kp a c:=⟨Nat.le_trans h.1 k.1,fun p x e=>k.2 p x (h.2 p x e)⟩
theorem Kp.ext {w w':World} (h:Ext w w'):Kp w w':=⟨h.size,fun a k e=>(h.cell (World.block_lt_of_cell? w a e)).trans e⟩
theorem U.kp {w w':World} {v:Value} {xs:List Nat} (h:U w v xs) (k:Kp w w'):U w' v xs:=by obtain ⟨A,c,e,hc,hx,hr⟩:=h;refine ⟨A,c,e,hc,hx,fun h0=>?_⟩;obtain ⟨ad,ea,hb,hj⟩:=hr h0;exact ⟨ad,ea,Nat.lt_of_lt_of_le hb k.1,fun j hjl=>k.2 _ _ (hj j hjl)⟩
theorem Un.kp {w w':World} {v:Value} {n:Nat} (h:Un w v n) (k:Kp w w'):Un w' v n:=U.kp h k
theorem Cb.lt {w:World} {N:Nat} {T:TypeId} {cs:List Value} (h:Cb w N T cs):N<w.heap.size:=(Array.getElem?_eq_some_iff.1 h).1
theorem Cb.ext {w w':World} {N:Nat} {T:TypeId} {cs:List Value} (h:Cb w N T cs) (k:Ext w w'):Cb w' N T cs:=(k.block N h.lt).trans h
theorem Cb.new (w:World) (T:TypeId) (cs:List Value):Cb (w.alloc (.cells cs.toArray T)) w.heap.size T cs:=heap_alloc_last w _
theorem Cb.load {w:World} {N:Nat} {T:TypeId} {cs:List Value} (h:Cb w N T cs) (ty:TypeId) (d:TypeDesc) (hu:prog.underlying ty=some d) (hd:d.isRow=true) (hi:(prog.info? ty).map (·.size)=some cs.length) :(Instr.loadAt ty (A0a N)).run prog w = .ok (.agg cs.toArray) w :=
 run_loadAt_mid w N 0 ty cs d (by have:=World.rangeAt_of_block h 0 cs.length;simpa using this) hu hd hi
theorem OV (w:World) (T:TypeId) (z:Value) (heap:Bool) (hz:(prog.info? T).map (fun i=>i.zero)=some (some z)) :(Instr.alloc T heap (.tuple #[])).run prog w = .ok (A0a w.heap.size) (w.alloc (.cells z.cells T)):=by
 have h0:(zeroValue T).run prog w = .ok z w:=by
  cases hq:prog.info? T with
  | none=>simp [hq] at hz
  | some i=>simp [hq] at hz;simp [zeroValue,typeInfo,hq,hz]
 cases heap<;>simp [Instr.alloc,Sem.run_bind,h0,newVar,newRow]
theorem Cb.store {w:World} {N:Nat} {T:TypeId} {cs:List Value} (h:Cb w N T cs) (ty:TypeId) (new:List Value) (hi:(prog.info? ty).map (·.size)=some new.length) (hl:cs.length=new.length) (h1:∀ v∈new,v.oneCell'=true) :(Instr.storeAt ty (A0a N) (.agg new.toArray)).run prog w = .ok () (w.setRow N new.toArray):=by simp only [Instr.storeAt,Instr.sureAddr,Sem.run_bind,Sem.run_pure,Result.andThen_ok];exact run_storeVar_row w N T ty cs.toArray new.toArray h (by simpa using hi) (by simpa using hl) (all_oneCell_toArray h1)
theorem Cb.put {w:World} {N:Nat} {T:TypeId} {cs:List Value} (h:Cb w N T cs) (new:List Value):Cb (w.setRow N new.toArray) N T new:=setRow_heap w N _ _ T _ h
theorem Cb.other {w:World} {M:Nat} {T:TypeId} {cs:List Value} (h:Cb w M T cs) (N:Nat) (new:Array Value) (hne:M≠N):Cb (w.setRow N new) M T cs:=(setRow_other w N M new hne).trans h
theorem Kp.put {w:World} {N:Nat} {T:TypeId} {cs:List Value} (h:Cb w N T cs) (hn:∀ c∈cs,zB c) (new:Array Value):Kp w (w.setRow N new):=by
 refine ⟨by simp,fun a k e=>?_⟩;by_cases hb:a.block=N
 · exfalso;subst hb;unfold World.cell? at e;rw [show w.heap[a.block]?=_ from h] at e;simp at e;exact hn _ (List.mem_of_getElem? e.2) k rfl
 · rw [cell_setRow_other w N new a hb];exact e
section
variable {L:List Oper} {S:World→Prop} {K:List (Nat × Value)→World→Prop} {k:Bool} {i m d:Nat} {o:Oper} {x:Operand} {r:List (Bool × Nat × Nat)} {l:List (Nat × Value)} {w:World}
theorem tu {T:TypeId} {y:Operand} {u p:Value} {j:Int} (hS:S w) (ho:Pl.nth L i=some o) (hp:o.op = .indexAddr T x y) (hd:o.dst=some d) (hg:Pl.gd L l o.guard=some true) (hx:fO l x=some u) (hy:fO l y=some (.int .i64 j)) (hr:∀ X,(Instr.indexAt T u (.int .i64 j)).run prog X = .ok p X) (h:iP prog L S K r ((d,p)::l) w):iP prog L S K ((k,i,m)::r) l w :=
 jS hS ho hd hg (fun ρ hρ X _=>by
  unfold execOp;rw [hp];refine fI _ X ?_;rw [hρ.fO hx,hρ.fO hy];exact hr X) h
end
theorem U.at {w:World} {v:Value} {xs:List Nat} (h:U w v xs) {j:Nat} (hj:j<xs.length):∃ p,(∀ X,(Instr.indexAt 24 v (.int .i64 (j:Int))).run prog X = .ok p X)∧∀ X,Ext w X→(Instr.loadAt 57 p).run prog X = .ok (.int .u32 (lb xs j:Nat)) X:=by
 obtain ⟨A,c,rfl,hc,hx,hr⟩:=h;obtain ⟨ad,rfl,hb,hcell⟩:=hr (by omega);have h1:(j:Int)<(xs.length:Int):=by omega
 have h0:(0:Int)≤(j:Int):=by omega
 refine ⟨.pointer (some (ad.add j)),fun X=>?_,fun X hX=>?_⟩
 · clear hcell hb hx hc;go_simp
 · have hq:=(hX.cell (p:=ad.add j) (by rw [aW];exact hb)).trans (hcell j hj);clear hcell;generalize ad.add j=q at *;go_simp
theorem Cb.cell {w:World} {N:Nat} {T:TypeId} {v:Value} (h:Cb w N T [v]):w.cell? ⟨N,0,none⟩=some v:=by rw [cell_of_row w N 0 #[v] T (0,0) h];rfl
theorem Cb.int {w:World} {N:Nat} {T:TypeId} {z:Int} (h:Cb w N T [.int .i64 z]):(Instr.loadAt 3 (A0a N)).run prog w = .ok (.int .i64 z) w:=by have hc:=h.cell;clear h;go_simp
theorem Cb.limbs {w:World} {N:Nat} {T:TypeId} {v:Value} (h:Cb w N T [v]):(Instr.loadAt 24 (A0a N)).run prog w = .ok v w:=by have hc:=h.cell;clear h;go_simp
theorem SL {y x0 by':Nat} (h:by'≤32):(y*2^32+x0)/2^(32-by')=y*2^by'+x0/2^(32-by'):=by
 have e:(2:Nat)^32=2^by'*2^(32-by'):=by rw [← Nat.pow_add];congr 1;omega
 rw [e,← Nat.mul_assoc,Nat.mul_comm _ (2^(32-by')),Nat.mul_add_div (Nat.two_pow_pos _)]
theorem WS {x0 by':Nat} (h:by'≤32) (hx:x0<2^32):x0/2^(32-by')<2^by':=by rw [Nat.div_lt_iff_lt_mul (Nat.two_pow_pos _),← Nat.pow_add];rwa [show by'+(32-by')=32 from by omega]
theorem agi {x y:Operand} {a b i c:Nat} (hb:b<2^i) (e:a*2^i+b=c) (hc:c<18446744073709551616) (X:World):(do eqGuard .or 111 x y (.int .u64 ((a*2^i:Nat):Int)) (.int .u64 (b:Int));binOp .or 111 (.int .u64 ((a*2^i:Nat):Int)) (.int .u64 (b:Int)):Sem Value).run prog X = .ok (.int .u64 (c:Int)) X:=by
 have e1:(a*2^i)|||b=c:=by rw [← Nat.shiftLeft_eq,← Nat.shiftLeft_add_eq_or_of_lt hb,Nat.shiftLeft_eq,e]
 have e2:bits .or .u64 ((a*2^i:Nat):Int) (b:Int)=(c:Int):=by
  have h1:a*2^i<18446744073709551616:=by omega
  have h2:b<18446744073709551616:=by omega
  rw [← e1];generalize a*2^i=t at *;exact u64_or_nat _ _ h1 h2
 generalize a*2^i=t at *;clear e1 e hb;go_simp
theorem U.ada {w:World} {v:Value} {xs:List Nat} (h:U w v xs):∀ x∈xs,x<4294967296:=by obtain ⟨_,_,_,_,hx,_⟩:=h;exact hx
theorem vH {a:Nat} (ha:a<4294967296) (X:World):(convert 57 111 (.int .u32 (a:Int))).run prog X = .ok (.int .u64 (a:Int)) X:=by have w1:=zJ (c:=a) (by omega);go_simp
theorem OW (w:World) (N:Nat) (T:TypeId) (v:Value) (xs:List Nat) (j:Nat) (hN:Cb w N T [v]) (hu:U w v xs) (hj:j<xs.length) :A0k 248 #[.int .i64 (j:Int),A0a N] w (.int .u64 (lb xs j:Nat)):=by have hx:=U.ada hu;obtain ⟨A,c,rfl,-⟩:=id hu;refine d9 (n:=13) (vs:=[.int .i64 (j:Int),A0a N]) func248 rfl (by kernel_rfl) (by simp)<|bu<|ed (by kernel_rfl)<|aZ trivial rfl<|aT<|bu<|bu<|ed (by kernel_rfl)<|aZ trivial rfl<|bH trivial rfl rfl rfl rfl rfl (Cb.limbs hN)<|jU trivial rfl rfl rfl rfl rfl<|bK (v:=(.bool true)) trivial rfl rfl rfl rfl rfl rfl (fun X=>yQ (decide_eq_true (by omega)) X)<|aT<|lI rfl<|bu<|ed (by kernel_rfl)<|bH trivial rfl rfl rfl rfl rfl (Cb.limbs hN)<|aZ trivial rfl ?_;obtain ⟨p_1,ai5,ai6⟩:=U.at hu hj;exact tu trivial rfl rfl rfl rfl rfl rfl ai5<|bH trivial rfl rfl rfl rfl rfl (ai6 _ (Ext.refl _))<|pE (v:=(.int .u64 ((lb xs j:Nat):Int))) trivial rfl rfl rfl rfl rfl (fun X=>vH (fD hx j) X)<|aZ trivial rfl<|aT<|jR rfl rfl<|⟨rfl,Ext.refl _⟩
theorem MW (w:World) (N:Nat) (T:TypeId) (v:Value) (xs:List Nat) (j:Nat) (hN:Cb w N T [v]) (hu:U w v xs) (hj:¬ j<xs.length) :A0k 248 #[.int .i64 (j:Int),A0a N] w (.int .u64 (lb xs j:Nat)):=by have hx:=U.ada hu;obtain ⟨A,c,rfl,-⟩:=id hu;exact d9 (n:=13) (vs:=[.int .i64 (j:Int),A0a N]) func248 rfl (by kernel_rfl) (by simp)<|bu<|ed (by kernel_rfl)<|aZ trivial rfl<|aT<|bu<|bu<|ed (by kernel_rfl)<|aZ trivial rfl<|bH trivial rfl rfl rfl rfl rfl (Cb.limbs hN)<|jU trivial rfl rfl rfl rfl rfl<|bK (v:=(.bool false)) trivial rfl rfl rfl rfl rfl rfl (fun X=>yQ (decide_eq_false (by omega)) X)<|aT<|iR rfl<|jP<|bu<|ed (by kernel_rfl)<|aZ trivial rfl<|aT<|jR rfl rfl<|⟨by rw [qV (Nat.le_of_not_lt hj)];rfl,Ext.refl _⟩
theorem Km (w:World) (N:Nat) (T:TypeId) (v:Value) (xs:List Nat) (j:Nat) (hN:Cb w N T [v]) (hu:U w v xs) :A0k 248 #[.int .i64 (j:Int),A0a N] w (.int .u64 (lb xs j:Nat)):=by
 by_cases hj:j<xs.length
 · exact OW w N T v xs j hN hu hj
 · exact MW w N T v xs j hN hu hj
section
namespace EQK
theorem WT (u:Array Value) (X:World):(callFunc 248 u).run prog X = .ok (.enter 248 u) X:=Pl.enters func248 (by kernel_rfl) rfl u X
end EQK
open EQK
section
variable {L:List Oper} {S:World→Prop} {K:List (Nat × Value)→World→Prop} {k:Bool} {i m d:Nat} {o:Oper} {x:Operand} {r:List (Bool × Nat × Nat)} {l:List (Nat × Value)} {w:World} {A:Option Addr} {n c:Nat}
theorem ai7 {T:TypeId} (ho:Pl.nth L i=some o) (hp:o.op = .box T x) (hd:o.dst=some d) (hg:o.guard=none) (hx:fO l x=some (.slice A n c)) (hS:∀ Y,Ext w Y→S Y) (h:∀ N w',Ext w w'→Cb w' N T [.slice A n c]→iP prog L S K r ((d,A0a N)::l) w'):iP prog L S K ((false,i,m)::r) l w:=by have e1:=(Ext.refl w).alloc (.cells #[.slice A n c] T);refine l8 (w':=w.alloc (.cells #[.slice A n c] T)) (v:=A0a w.heap.size) ho hd (by rw [hg];rfl) (fun ρ hρ=>?_) (hS _ e1) (h _ _ e1 (Cb.new w T [.slice A n c]));unfold execOp;rw [hp];refine uA _ ?_;rw [hρ.fO hx];go_simp
end
section
variable {x y:Operand}
theorem WU (a s:Nat):((a:Nat):Int)*2^s=((a*2^s:Nat):Int):=by rw [Int.natCast_mul,Int.natCast_pow];rfl
theorem Kn (a s:Nat):((a:Nat):Int)/2^s=((a/2^s:Nat):Int):=by rw [Int.natCast_ediv,Int.natCast_pow];rfl
theorem agj {a s:Nat} (hs:s≤32) (h:a*2^s<18446744073709551616) (X:World):(do eqGuard .shl 111 x y (.int .u64 (a:Int)) (.int .i64 (s:Int));binOp .shl 111 (.int .u64 (a:Int)) (.int .i64 (s:Int)):Sem Value).run prog X = .ok (.int .u64 ((a*2^s:Nat):Int)) X:=by
 have e:=WU a s;have w1:=zJ h;have h0:¬ ((s:Int)<0):=by omega
 have h1:¬ (64≤s):=by omega
 have h2:(s:Int).toNat=s:=by omega
 clear h;generalize a*2^s=c at *;go_simp
theorem agk {a s:Nat} (hs:s≤32) (h:a<18446744073709551616) (X:World):(do eqGuard .shr 111 x y (.int .u64 (a:Int)) (.int .i64 (s:Int));binOp .shr 111 (.int .u64 (a:Int)) (.int .i64 (s:Int)):Sem Value).run prog X = .ok (.int .u64 ((a/2^s:Nat):Int)) X:=by
 have e:=Kn a s;have hc:=Nat.div_le_self a (2^s);have w1:=zJ (c:=a/2^s) (by omega);have h0:¬ ((s:Int)<0):=by omega
 have h1:¬ (64≤s):=by omega
 have h2:(s:Int).toNat=s:=by omega
 clear h hc;generalize a/2^s=c at *;go_simp
theorem adb {a:Nat} {z:Int} (hz:z=32) (h:a*2^32<18446744073709551616) (X:World):(do eqGuard .shl 111 x y (.int .u64 (a:Int)) (.int .u64 z);binOp .shl 111 (.int .u64 (a:Int)) (.int .u64 z):Sem Value).run prog X = .ok (.int .u64 ((a*2^32:Nat):Int)) X:=by
 subst hz;have e:(a:Int)*4294967296=((a*2^32:Nat):Int):=by omega
 have w1:=zJ h;clear h;generalize a*2^32=c at *;go_simp
end
theorem OX (w:World) (N M:Nat) (T R:TypeId) (v:Value) (xs:List Nat) (n by':Nat) (hu:U w v xs) (hN:Cb w N T [.int .i64 (n:Int)]) (hM:Cb w M R [.int .i64 (by':Int)]) (hn:3≤n∧n≤1000000) (hby:by'≤32∧0<1) (h64:(lb xs (n-1)*2^32+lb xs (n-2))*2^by'<18446744073709551616) (hbig:(lb xs (n-1)*2^32+lb xs (n-2))*2^by'+lb xs (n-3)/2^(32-by')<18446744073709551616) :Calls prog 247 #[v,A0a N,A0a M] w fun e w'=>e = .returned (.int .u64 ((lb xs (n-1)*2^32+lb xs (n-2))*2^by'+lb xs (n-3)/2^(32-by'):Nat))∧Ext w w':=by have hx:=U.ada hu;have ha:=fD hx (n-1);have hb:=fD hx (n-2);have hc:=fD hx (n-3);refine d9 (n:=27) (vs:=[v,A0a N,A0a M]) func247 rfl (by kernel_rfl) (by simp)<|bu<|ed (by kernel_rfl) ?_;obtain ⟨A_1,c_1,rfl,-⟩:=id hu;refine ai7 rfl rfl rfl rfl rfl (fun _ _=>trivial) ?_;intro N1 w1 hB1 ib1;refine aZ trivial rfl<|aT<|bu<|ed (by kernel_rfl)<|qF trivial rfl rfl rfl rfl rfl rfl<|aZ trivial rfl<|aT<|bu<|qc (S:=fun X=>Ext w1 X) [(true,0,0),(true,1,1),(true,2,3),(true,5,7),(true,6,39),(true,7,103),(true,10,231),(true,12,1255),(true,13,5351),(true,14,13543),(true,16,29927),(true,17,95463),(false,3,226535),(true,4,226543),(false,8,226559),(true,9,226815),(true,11,227327),(false,15,229375),(true,18,262143),(true,19,524287),(true,20,1048575)] fo gY (by kernel_rfl) (Ext.drew (Ext.refl w1)) ?_;generalize w1.drew=w2;intro hB2;have hS2:=hB2;refine aZ hS2 rfl<|jo hS2 rfl rfl rfl rfl rfl (fun X hX=>Cb.int (Cb.ext (Cb.ext hN hB1) hX))<|bK (v:=(.int .i64 ((n-1:Nat):Int))) hS2 rfl rfl rfl rfl rfl rfl (fun X=>I8 (by omega) (by omega) (by omega) X)<|aZ hS2 rfl<|jo hS2 rfl rfl rfl rfl rfl (fun X hX=>Cb.int (Cb.ext (Cb.ext hN hB1) hX))<|bK (v:=(.int .i64 ((n-2:Nat):Int))) hS2 rfl rfl rfl rfl rfl rfl (fun X=>I8 (by omega) (by omega) (by omega) X)<|jo hS2 rfl rfl rfl rfl rfl (fun X hX=>Cb.int (Cb.ext (Cb.ext hM hB1) hX))<|aZ hS2 rfl<|jo hS2 rfl rfl rfl rfl rfl (fun X hX=>Cb.int (Cb.ext (Cb.ext hN hB1) hX))<|bK (v:=(.int .i64 ((n-3:Nat):Int))) hS2 rfl rfl rfl rfl rfl rfl (fun X=>I8 (by omega) (by omega) (by omega) X)<|jo hS2 rfl rfl rfl rfl rfl (fun X hX=>Cb.int (Cb.ext (Cb.ext hM hB1) hX))<|bK (v:=(.int .i64 ((32-by':Nat):Int))) hS2 rfl rfl rfl rfl rfl rfl (fun X=>I8 (by omega) (by omega) (by omega) X) ?_;have WV:=Cb.ext ib1 hB2;have abr:=U.below hu (Ext.below hB1 hB2);refine iT rfl rfl rfl rfl rfl rfl WT<|Calls.mono (Km _ N1 _ _ xs (n-1) WV abr) ?_;rintro e w3 ⟨rfl,hB3⟩;have yJ:=Ext.below hS2 hB3;refine ⟨_,rfl,yJ,?_⟩;refine bK (v:=(.int .u64 ((lb xs (n-1)*2^32:Nat):Int))) yJ rfl rfl rfl rfl rfl rfl (fun X=>adb (by decide) (by omega) X) ?_;have GG:=Cb.ext WV hB3;have abt:=U.below abr hB3;refine iT rfl rfl rfl rfl rfl rfl WT<|Calls.mono (Km _ N1 _ _ xs (n-2) GG abt) ?_;rintro e w4 ⟨rfl,hB4⟩;have vV:=Ext.below yJ hB4;refine ⟨_,rfl,vV,?_⟩;refine bK (v:=(.int .u64 ((lb xs (n-1)*2^32+lb xs (n-2):Nat):Int))) vV rfl rfl rfl rfl rfl rfl (fun X=>agi (i:=32) (by omega) rfl (by omega) X)<|bK (v:=(.int .u64 (((lb xs (n-1)*2^32+lb xs (n-2))*2^by':Nat):Int))) vV rfl rfl rfl rfl rfl rfl (fun X=>agj hby.1 h64 X) ?_;have OY:=Cb.ext GG hB4;have agl:=U.below abt hB4;refine iT rfl rfl rfl rfl rfl rfl WT<|Calls.mono (Km _ N1 _ _ xs (n-3) OY agl) ?_;rintro e w5 ⟨rfl,IC⟩;have hS5:=Ext.below vV IC;refine ⟨_,rfl,hS5,?_⟩;exact bK (v:=(.int .u64 ((lb xs (n-3)/2^(32-by'):Nat):Int))) hS5 rfl rfl rfl rfl rfl rfl (fun X=>agk (by omega) (by omega) X)<|bK (v:=(.int .u64 (((lb xs (n-1)*2^32+lb xs (n-2))*2^by'+lb xs (n-3)/2^(32-by'):Nat):Int))) hS5 rfl rfl rfl rfl rfl rfl (fun X=>agi (WS hby.1 hc) rfl hbig X)<|aZ hS5 rfl<|aT<|jR rfl rfl<|⟨rfl,(Ext.below hB1 (Ext.below hB2 (Ext.below hB3 (Ext.below hB4 IC))))⟩
end
section
namespace EQL
theorem agm (u:Array Value) (X:World):(callFunc 142 u).run prog X = .ok (.enter 142 u) X:=Pl.enters func142 (by kernel_rfl) rfl u X
end EQL
open EQL
theorem ZU (w:World) (x:Nat) (h:x<4294967296):Calls prog 142 #[.int .u32 (x:Int)] w fun e w'=>e = .returned (.int .i64 (dI x:Nat))∧Ext w w' :=
 (DF w x h).mono fun e w' ⟨he,hw⟩=>⟨he,hw ▸ Ext.refl w⟩
theorem agn {x:Nat} (h:x<4294967296):dI x≤32:=eu (k:=32) h
theorem WW {m n by':Nat} (hn:3≤n) (hm:m<4294967296^n) (hb:by'≤32) :(lb (limbs m) (n-1)*2^32+lb (limbs m) (n-2))*2^by'+lb (limbs m) (n-3)/2^(32-by')=m/2^(32*(n-3)+(32-by')):=by
 obtain ⟨k,rfl⟩:∃ k,n=k+3:=⟨n-3,by omega⟩;have e0:(4294967296:Nat)=2^32:=by decide
 have h1:m/4294967296^k<4294967296^3:=by rw [Nat.div_lt_iff_lt_mul (Nat.pow_pos (by decide)),← Nat.pow_add,Nat.add_comm 3 k];exact hm
 have d1:m/4294967296^(k+1)=m/4294967296^k/4294967296:=by rw [Nat.div_div_eq_div_mul,← Nat.pow_succ]
 have d2:m/4294967296^(k+2)=m/4294967296^k/4294967296/4294967296:=by rw [← d1,Nat.div_div_eq_div_mul,← Nat.pow_succ]
 rw [Nat.pow_add 2,Nat.pow_mul 2 32,← Nat.div_div_eq_div_mul];rw [qW,qW,qW,show k+3-1=k+2 from rfl,show k+3-2=k+1 from rfl,show k+3-3=k from rfl,d1,d2,← SL hb,← e0];congr 1;generalize m/4294967296^k=h at *;omega
theorem CP {m a n:Nat} (hn:3≤n) (hl:(limbs a).length=n) (hm:m≤a):m/2^(32*(n-3)+(32-(32-dI (lb (limbs a) (n-1)))))<18446744073709551616:=by
 have ha:a≠0:=by rintro rfl;rw [bF] at hl;simp at hl;omega
 have hb:=zC a ha;rw [hl] at hb;have h2:=jV a;have h32:dI (lb (limbs a) (n-1))≤32:=eu (k:=32) (fD (fun x hx=>lT a x hx) _);rw [Nat.div_lt_iff_lt_mul (Nat.two_pow_pos _),show (18446744073709551616:Nat)=2^64 from by decide,← Nat.pow_add];refine Nat.lt_of_le_of_lt hm (Nat.lt_of_lt_of_le h2 (Nat.pow_le_pow_right (by decide) ?_));omega
theorem OZ (w:World) (x:Nat) (hx:x<4294967296) :A0k 246 #[.int .u32 (x:Int)] w (.int .i64 (32-dI x:Nat)):=by have h32:=agn hx;refine d9 (n:=6) (vs:=[.int .u32 (x:Int)]) func246 rfl (by kernel_rfl) (by simp)<|bu<|ed (by kernel_rfl)<|aZ trivial rfl<|aT<|bu<|ed (by kernel_rfl)<|aZ trivial rfl<|dQ rfl rfl rfl rfl rfl agm<|Calls.mono (ZU _ x hx) ?_;rintro e w1 ⟨rfl,hB1⟩;refine ⟨_,rfl,trivial,?_⟩;exact bK (v:=(.int .i64 ((32-dI x:Nat):Int))) trivial rfl rfl rfl rfl rfl rfl (fun X=>I8 (by omega) (by omega) (by omega) X)<|aZ trivial rfl<|aT<|jR rfl rfl<|⟨rfl,hB1⟩
end
section
namespace EQM
theorem agp (u:Array Value) (X:World):(callFunc 246 u).run prog X = .ok (.enter 246 u) X:=Pl.enters func246 (by kernel_rfl) rfl u X
theorem abu (u:Array Value) (X:World):(callFunc 247 u).run prog X = .ok (.enter 247 u) X:=Pl.enters func247 (by kernel_rfl) rfl u X
end EQM
open EQM
theorem O0 (w:World) (z:Int):∃ w1 w',(Instr.alloc 3 true (.tuple #[])).run prog w = .ok (A0a w.heap.size) w1∧Ext w w1 ∧(Instr.storeAt 3 (A0a w.heap.size) (.int .i64 z)).run prog w1 = .ok () w'∧Ext w w'∧Cb w' w.heap.size 3 [.int .i64 z]:=by
 refine ⟨w.alloc (.cells #[.int .i64 0] 3),w.alloc (.cells #[.int .i64 z] 3),?_,(Ext.refl w).alloc _,?_,(Ext.refl w).alloc _,Cb.new w _ _⟩
 · go_simp
 · go_simp
theorem WX {L:List Oper} {S:World→Prop} {K:List (Nat × Value)→World→Prop} {i j m1 m2 d:Nat} {o1 o2:Oper} {x:Operand} {r:List (Bool × Nat × Nat)} {l:List (Nat × Value)} {w:World} {z:Int} (ho1:Pl.nth L i=some o1) (hp1:o1.op = .alloc 3) (hd1:o1.dst=some d) (hg1:o1.guard=none) (ho2:Pl.nth L j=some o2) (hp2:o2.op = .store 3 (.tmp d) x) (hd2:o2.dst=none) (hg2:o2.guard=none) (hx:∀ p,fO ((d,p)::l) x=some (.int .i64 z)) (hS:∀ Y,Ext w Y→S Y) (h:∀ N w',Ext w w'→Cb w' N 3 [.int .i64 z]→iP prog L S K r ((d,A0a N)::l) w'):iP prog L S K ((false,i,m1)::(false,j,m2)::r) l w:=by obtain ⟨w1,w',h1,e1,h2,e2,hI⟩:=O0 w z;refine Gn ho1 hp1 hd1 (by rw [hg1];rfl) h1 (hS _ e1)<|gz ho2 hp2 hd2 (by rw [hg2];rfl) ?_ (hx _) h2 (hS _ e2) (h _ _ e2 hI);exact SF _ _ _
theorem WY (w:World) (N M:Nat) (T R:TypeId) (v:Value) (m n by':Nat) (hu:U w v (limbs m)) (hN:Cb w N T [.int .i64 (n:Int)]) (hM:Cb w M R [.int .i64 (by':Int)]) (hn:3≤n∧n≤1000000) (hby:by'≤32) (hm:m<4294967296^n) (hf:m/2^(32*(n-3)+(32-by'))<18446744073709551616) :Calls prog 247 #[v,A0a N,A0a M] w fun e w'=>e = .returned (.int .u64 (m/2^(32*(n-3)+(32-by')):Nat))∧Ext w w':=by
 have e:=WW hn.1 hm hby
 rw [← e] at hf ⊢;exact OX w N M T R v (limbs m) n by' hu hN hM hn ⟨hby,by decide⟩ (Nat.lt_of_le_of_lt (Nat.le_add_right _ _) hf) hf
theorem O3 (w:World) (va vb:Value) (a b:Nat) (ha:Un w va a) (hb:Un w vb b) (hn:3≤(limbs a).length∧(limbs a).length≤1000000) (hba:b≤a) :Calls prog 237 #[va,vb] w fun e w'=>e = .returned (.tuple #[.int .u64 (a/2^(32*((limbs a).length-3)+(32-(32-dI (lb (limbs a) ((limbs a).length-1))))):Nat),.int .u64 (b/2^(32*((limbs a).length-3)+(32-(32-dI (lb (limbs a) ((limbs a).length-1))))):Nat)])∧Ext w w':=by have hx:=lT a;have hma:a<4294967296^(limbs a).length:=dS (Nat.le_refl _);have hmb:b<4294967296^(limbs a).length:=Nat.lt_of_le_of_lt hba hma;have hfa:=CP hn.1 rfl (Nat.le_refl a);have hfb:=CP hn.1 rfl hba;refine d9 (n:=24) (vs:=[va,vb]) func237 rfl (by kernel_rfl) (by simp)<|bu<|ed (by kernel_rfl)<|aZ trivial rfl<|aT<|bu<|ed (by kernel_rfl)<|aZ trivial rfl ?_;obtain ⟨A,c,rfl,-⟩:=Un.sh ha;refine jU trivial rfl rfl rfl rfl rfl<|WX rfl rfl rfl rfl rfl rfl rfl rfl (fun _=>rfl) (fun _ _=>trivial) ?_;intro N1 w1 hB1 ib1;refine aT<|bu<|ed (by kernel_rfl)<|aZ trivial rfl<|bH trivial rfl rfl rfl rfl rfl (Cb.int ib1)<|bK (v:=(.int .i64 (((limbs a).length-1:Nat):Int))) trivial rfl rfl rfl rfl rfl rfl (fun X=>I8 (by omega) (by omega) (by omega) X) ?_;have QO:=U.below ha hB1;obtain ⟨p_2,ai8,hl_2⟩:=U.at QO (show (limbs a).length-1<(limbs a).length by omega);refine tu trivial rfl rfl rfl rfl rfl rfl ai8<|bH trivial rfl rfl rfl rfl rfl (hl_2 _ (Ext.refl _))<|dQ rfl rfl rfl rfl rfl agp<|Calls.mono (OZ _ (lb (limbs a) ((limbs a).length-1)) (fD hx ((limbs a).length-1))) ?_;rintro e w2 ⟨rfl,hB2⟩;refine ⟨_,rfl,trivial,?_⟩;refine WX rfl rfl rfl rfl rfl rfl rfl rfl (fun _=>rfl) (fun _ _=>trivial) ?_;intro N3 w3 hB3 ib3;refine aT<|bu<|ed (by kernel_rfl)<|qF trivial rfl rfl rfl rfl rfl rfl<|aZ trivial rfl<|aT<|bu<|ed (by kernel_rfl)<|aZ trivial rfl ?_;have agq:=U.below QO (Ext.below hB2 hB3);have GG:=Cb.ext ib1 (Ext.below hB2 hB3);refine iT rfl rfl rfl rfl rfl rfl abu<|Calls.mono (WY _ N1 N3 _ _ _ a (limbs a).length (32-dI (lb (limbs a) ((limbs a).length-1))) agq GG ib3 hn (Nat.sub_le _ _) hma hfa) ?_;rintro e w4 ⟨rfl,hB4⟩;refine ⟨_,rfl,trivial,?_⟩;refine aZ trivial rfl ?_;have agr:=U.below hb (Ext.below hB1 (Ext.below hB2 (Ext.below hB3 hB4)));have OY:=Cb.ext GG hB4;have ade:=Cb.ext ib3 hB4;refine iT rfl rfl rfl rfl rfl rfl abu<|Calls.mono (WY _ N1 N3 _ _ _ b (limbs a).length (32-dI (lb (limbs a) ((limbs a).length-1))) agr OY ade hn (Nat.sub_le _ _) hmb hfb) ?_;rintro e w5 ⟨rfl,IC⟩;refine ⟨_,rfl,trivial,?_⟩;exact aZ trivial rfl<|aT<|uE rfl rfl rfl<|⟨rfl,(Ext.below hB1 (Ext.below hB2 (Ext.below hB3 (Ext.below hB4 IC))))⟩
end
section
namespace EQN
theorem ai9 (u:Array Value) (X:World):(callFunc 94 u).run prog X = .ok (.enter 94 u) X:=Pl.enters func94 (by kernel_rfl) rfl u X
theorem ai' (u:Array Value) (X:World):(callFunc 73 u).run prog X = .ok (.enter 73 u) X:=Pl.enters func73 (by kernel_rfl) rfl u X
end EQN
open EQN
theorem J4 (w:World) (vq va vb:Value) (q a b:Nat) (hq:Un w vq q) (ha:Un w va a) (hb:Un w vb b) (hlq:Sn q 78) (hla:Sn a 78) (hlb:Sn b 78) :Calls prog 221 #[vq,va,vb] w fun e w'=>∃ x y,e = .returned (.tuple #[x,y])∧Un w' x b∧Un w' y (a+q*b)∧Ext w w':=by refine d9 (n:=14) (vs:=[vq,va,vb]) func221 rfl (by kernel_rfl) (by simp)<|bu<|ed (by kernel_rfl)<|aZ trivial rfl<|aT<|bu<|ed (by kernel_rfl)<|aZ trivial rfl<|dQ rfl rfl rfl rfl rfl ai9<|Calls.mono (mulN _ _ _ q b _ hq hb (Sn.le hlq (by decide)) (Sn.le hlb (by decide)) rfl) ?_;rintro e w1 ⟨ai3,rfl,age,hB1⟩;refine ⟨_,rfl,trivial,?_⟩;have ac8:Sn (q*b) 156:=Sn.mul hlq hlb (by decide);have QO:=Un.below ha hB1;refine dQ rfl rfl rfl rfl rfl ai'<|Calls.mono (LG _ _ _ a (q*b) QO age (Sn.le hla (by decide)) (Sn.le ac8 (by decide)) _ rfl) ?_;rintro e w2 ⟨agd,rfl,ac7,hB2⟩;refine ⟨_,rfl,trivial,?_⟩;have agf:Sn (a+(q*b)) 157:=Sn.add hla ac8 (by decide) (by decide);refine aZ trivial rfl<|aT<|uE rfl rfl rfl ?_;have ags:=Un.below hb (Ext.below hB1 hB2);exact ⟨_,_,rfl,ags,ac7,(Ext.below hB1 hB2)⟩
end
theorem Cb.cellAt {w:World} {N:Nat} {T:TypeId} {cs:List Value} {v:Value} (h:Cb w N T cs) {j:Nat} (hj:cs[j]?=some v):w.cell? ⟨N,j,none⟩=some v:=by rw [cell_of_row w N j cs.toArray T (0,0) h];simpa using hj
theorem Cb.uG {w:World} {N:Nat} {T:TypeId} {cs:List Value} {z:Int} (h:Cb w N T cs) {j:Nat} (hj:cs[j]?=some (.int .u64 z)):(Instr.loadAt 111 (.pointer (some ⟨N,j,none⟩))).run prog w = .ok (.int .u64 z) w:=by have hc:=h.cellAt hj;clear h hj;go_simp
theorem Cb.Ko {w:World} {N:Nat} {T:TypeId} {cs:List Value} {z:Bool} (h:Cb w N T cs) {j:Nat} (hj:cs[j]?=some (.bool z)):(Instr.loadAt 4 (.pointer (some ⟨N,j,none⟩))).run prog w = .ok (.bool z) w:=by have hc:=h.cellAt hj;clear h hj;go_simp
theorem xL (N:Nat) (X:World):(Instr.fieldAt 208 (A0a N) 0).run prog X = .ok (A0a N) X:=by go_simp
theorem xM (N:Nat) (X:World):(Instr.fieldAt 208 (A0a N) 1).run prog X = .ok (.pointer (some ⟨N,1,none⟩)) X:=by go_simp
theorem uH (N:Nat) (X:World):(Instr.fieldAt 208 (A0a N) 2).run prog X = .ok (.pointer (some ⟨N,2,none⟩)) X:=by go_simp
theorem xN (N:Nat) (X:World):(Instr.fieldAt 208 (A0a N) 3).run prog X = .ok (.pointer (some ⟨N,3,none⟩)) X:=by go_simp
theorem uI (N:Nat) (X:World):(Instr.fieldAt 208 (A0a N) 4).run prog X = .ok (.pointer (some ⟨N,4,none⟩)) X:=by go_simp
theorem QR {L:List Oper} {S:World→Prop} {K:List (Nat × Value)→World→Prop} {i m d:Nat} {o:Oper} {x:Operand} {r:List (Bool × Nat × Nat)} {l:List (Nat × Value)} {w:World} {T:TypeId} {a b c e f:Value} (ho:Pl.nth L i=some o) (hp:o.op = .box T x) (hd:o.dst=some d) (hg:o.guard=none) (hx:fO l x=some (.agg #[a,b,c,e,f])) (hS:∀ Y,Ext w Y→S Y) (h:∀ N w',Ext w w'→Cb w' N T [a,b,c,e,f]→iP prog L S K r ((d,A0a N)::l) w'):iP prog L S K ((false,i,m)::r) l w:=by have e1:=(Ext.refl w).alloc (.cells #[a,b,c,e,f] T);refine l8 (w':=w.alloc (.cells #[a,b,c,e,f] T)) (v:=A0a w.heap.size) ho hd (by rw [hg];rfl) (fun ρ hρ=>?_) (hS _ e1) (h _ _ e1 (Cb.new w T [a,b,c,e,f]));unfold execOp;rw [hp];refine uA _ ?_;rw [hρ.fO hx];go_simp
abbrev NQ (u0 u1 v0 v1:Nat) (ev:Bool):Value:=.agg #[.int .u64 (u0:Int),.int .u64 (u1:Int),.int .u64 (v0:Int),.int .u64 (v1:Int),.bool ev]
theorem OD (w:World) (u0 u1 v0 v1:Nat) (ev:Bool) :A0k 218 #[NQ u0 u1 v0 v1 ev] w (.bool (decide (v0=0))):=by refine d9 (n:=6) (vs:=[NQ u0 u1 v0 v1 ev]) func218 rfl (by kernel_rfl) (by simp)<|bu<|ed (by kernel_rfl)<|QR rfl rfl rfl rfl rfl (fun _ _=>trivial) ?_;intro N1 w1 hB1 ib1;exact aZ trivial rfl<|aT<|bu<|ed (by kernel_rfl)<|fM trivial rfl rfl rfl rfl rfl (uH _)<|bH trivial rfl rfl rfl rfl rfl (Cb.uG ib1 rfl)<|bK (v:=(.bool (decide (v0=0)))) trivial rfl rfl rfl rfl rfl rfl (fun X=>agh (by rw [Bool.eq_iff_iff];simp) X)<|aZ trivial rfl<|aT<|jR rfl rfl<|⟨rfl,hB1⟩
section
variable {L:List Oper} {S:World→Prop} {K:List (Nat × Value)→World→Prop} {i m d:Nat} {o:Oper} {x:Operand} {r:List (Bool × Nat × Nat)} {l:List (Nat × Value)} {w:World} {v:Value}
theorem ZV {T:TypeId} (hv:v.cells=#[v]) (ho:Pl.nth L i=some o) (hp:o.op = .box T x) (hd:o.dst=some d) (hg:o.guard=none) (hx:fO l x=some v) (hS:∀ Y,Ext w Y→S Y) (h:∀ N w',Ext w w'→w.heap.size≤N→Cb w' N T [v]→iP prog L S K r ((d,A0a N)::l) w'):iP prog L S K ((false,i,m)::r) l w:=by have e1:=(Ext.refl w).alloc (.cells #[v] T);refine l8 (w':=w.alloc (.cells #[v] T)) (v:=A0a w.heap.size) ho hd (by rw [hg];rfl) (fun ρ hρ=>?_) (hS _ e1) (h _ _ e1 (Nat.le_refl _) (Cb.new w T [v]));unfold execOp;rw [hp];refine uA _ ?_;rw [hρ.fO hx];simp [Instr.box,Sem.run_bind,newVar,newRow,hv]
end
theorem J9 (w:World) (va vb fe fg:Value) (h1:va.cells=#[va]) (h2:vb.cells=#[vb]) (h3:fe.cells=#[fe]) (h4:fg.cells=#[fg]) :Calls prog 177 #[va,vb,fe,fg] w fun e w'=>∃ Na Nb Ne Ng,e = .returned (.func (.func 215) #[] #[A0a Nb,A0a Na,A0a Ne,A0a Ng]) ∧Cb w' Na 24 [va]∧Cb w' Nb 24 [vb]∧Cb w' Ne 177 [fe]∧Cb w' Ng 180 [fg]∧w.heap.size≤Na∧Na<Nb∧Nb<Ne∧Ne<Ng∧Ext w w':=by refine d9 (n:=10) (vs:=[va,vb,fe,fg]) func177 rfl (by kernel_rfl) (by simp)<|bu<|ed (by kernel_rfl)<|ZV h1 rfl rfl rfl rfl rfl (fun _ _=>trivial) ?_;intro Na w1 hB1 n1 b1;refine ZV h2 rfl rfl rfl rfl rfl (fun _ _=>trivial) ?_;intro Nb w2 hB2 n2 b2;refine ZV h3 rfl rfl rfl rfl rfl (fun _ _=>trivial) ?_;intro Ne w3 hB3 n3 b3;refine ZV h4 rfl rfl rfl rfl rfl (fun _ _=>trivial) ?_;intro Ng w4 hB4 n4 b4;refine aZ trivial rfl<|aT<|bu<|ed (by kernel_rfl)<|qF trivial rfl rfl rfl rfl rfl rfl<|aZ trivial rfl<|aT<|jR rfl rfl ?_;have e3:=b3.lt;have e2:=b2.lt;have e1:=b1.lt;exact ⟨Na,Nb,Ne,Ng,rfl,Cb.ext b1 (hB2.below (hB3.below hB4)),Cb.ext b2 (hB3.below hB4),Cb.ext b3 hB4,b4,n1,by omega,by omega,by omega,hB1.below (hB2.below (hB3.below hB4))⟩
theorem Ik (w:World) (t n:Value):Calls prog 179 #[t,n] w fun e w'=>e = .returned (.tuple #[])∧w'=w:=by exact d9 (n:=4) (vs:=[t,n]) func179 rfl (by kernel_rfl) (by simp)<|jP (uB rfl ⟨rfl,rfl⟩)
theorem Ij (w:World) (q:Value):Calls prog 178 #[q] w fun e w'=>e = .returned (.tuple #[])∧w'=w:=by exact d9 (n:=2) (vs:=[q]) func178 rfl (by kernel_rfl) (by simp)<|jP (uB rfl ⟨rfl,rfl⟩)
