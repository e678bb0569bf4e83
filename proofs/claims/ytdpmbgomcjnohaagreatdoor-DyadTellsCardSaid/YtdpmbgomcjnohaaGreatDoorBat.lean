/- Rationals in lowest terms. -/
import Derived.Test.YtdpmbgomcjnohaaGreatDoorBac
import Derived.Test.YtdpmbgomcjnohaaGreatDoorBas
import Derived.Test.YtdpmbgomcjnohaaGreatDoorBaq
import Derived.Test.YtdpmbgomcjnohaaGreatDoorBar
import Derived.Test.YtdpmbgomcjnohaaGreatDoorBab

namespace Go.Proofs.YtdpmbgomcjnohaaGreatDoor.Rq
set_option linter.all false
set_option maxRecDepth 100000
set_option maxHeartbeats 8000000
theorem Rh {n d:Int} (hd:d≠0):(Rat.divInt n d).num=(if d<0 then -(n/(Nat.gcd n.natAbs d.natAbs:Nat)) else n/(Nat.gcd n.natAbs d.natAbs:Nat)):=by
 rw [Rat.num_divInt,Int.gcd_comm]
 show d.sign*n/((Nat.gcd n.natAbs d.natAbs:Nat):Int)=_
 rcases Int.lt_trichotomy d 0 with h | h | h
 · rw [Int.sign_eq_neg_one_of_neg h,if_pos h,Int.neg_mul,Int.one_mul]
   exact Int.neg_ediv_of_dvd (Int.ofNat_dvd_left.2 (Nat.gcd_dvd_left _ _))
 · exact absurd h hd
 · rw [Int.sign_eq_one_of_pos h,Int.one_mul,if_neg (by omega)]
theorem Rj {n d:Int} (hd:d≠0):(Rat.divInt n d).den=d.natAbs/Nat.gcd n.natAbs d.natAbs:=by
 rw [Rat.den_divInt,if_neg hd,Int.gcd_comm]
 rfl
theorem whole (n:Int):((n:Rat)).num=n∧((n:Rat)).den=1:=⟨rfl,rfl⟩
end Go.Proofs.YtdpmbgomcjnohaaGreatDoor.Rq
/- Small laws for walks over structs: whole numbers, dyadic numbers, rationals; numbers with a sign; results that lie in variables. -/
namespace Go.Proofs.YtdpmbgomcjnohaaGreatDoor
open Go.RowKit
set_option linter.all false
set_option maxRecDepth 100000
set_option maxHeartbeats 8000000
theorem U.xs {w w':World} {N:Nat} {T:TypeId} {cs:List Value} {v:Value} {xs:List Nat} (h:U w v xs) (k:Pl.Xs [N] w w') (hN:Pl.Cb w N T cs) (hc:∀ c∈cs,∀ z,c≠.int .u32 z):U w' v xs:=by
 obtain ⟨A,c,rfl,hl,hx,hr⟩:=h
 refine ⟨A,c,rfl,hl,hx,fun h0=>?_⟩
 obtain ⟨ad,hA,hb,hcell⟩:=hr h0
 have hne:ad.block≠N:=fun e=>by
  have h1:=hcell 0 h0
  unfold World.cell? at h1
  rw [aF,e,show w.heap[N]?=_ from hN] at h1
  simp at h1
  exact hc _ (List.mem_of_getElem? h1.2) _ rfl
 refine ⟨ad,hA,Nat.lt_of_lt_of_le hb k.size,fun j hj=>?_⟩
 rw [World.cell?_of_block (w:=w) (k.block _ (by rw [aF];exact hb) (by rw [aF];simpa using hne))]
 exact hcell j hj
theorem Un.xs {w w':World} {N:Nat} {T:TypeId} {cs:List Value} {v:Value} {n:Nat} (h:Un w v n) (k:Pl.Xs [N] w w') (hN:Pl.Cb w N T cs) (hc:∀ c∈cs,∀ z,c≠.int .u32 z):Un w' v n:=U.xs h k hN hc
theorem kC {n:Nat}:(limbs n).length=0↔n=0:=⟨fun h=>wK.1 (List.eq_nil_of_length_eq_zero h),fun h=>by subst h;rw [aX];rfl⟩
theorem Hy {w:World} {A:Option Addr} {n L c i:Nat} (h:Un w (.slice A L c) n) (hi:i<(limbs n).length):∃ ad,A=some ad∧∀ X,Pl.Ex w X→X.cell? (ad.add (i*1))=some (.int .u32 ((lb (limbs n) i:Nat):Int)):=by
 obtain ⟨A',c',e,hc,hx,hr⟩:=h
 injection e with e1 e2 e3
 subst e1
 obtain ⟨ad,hA,hb,hcell⟩:=hr (by omega)
 exact ⟨ad,hA,fun X hX=>by rw [Nat.mul_one];exact (Below.cell hX (by rw [aF];exact hb)).trans (hcell i hi)⟩
theorem xu {w:World} {ad:Addr} {n L c:Nat} (h:Un w (.slice (some ad) L c) n) (h0:n≠0):w.cell? (ad.add (0*1))=some (.int .u32 ((n%4294967296:Nat):Int)):=by
 obtain ⟨A',c',e,hc,hx,hr⟩:=h
 injection e with e1 e2 e3
 subst e1
 obtain ⟨ZU,hA,hb,hcell⟩:=hr (rQ h0)
 cases hA
 have h:=hcell 0 (rQ h0)
 rw [d9 h0] at h
 exact h
theorem Zn.of {w:World} {A:Option Addr} {c:Nat} {z:Int} (u:Un w (.slice A (limbs z.natAbs).length c) z.natAbs):Zn w (.agg #[.bool (decide (z<0)),.slice A (limbs z.natAbs).length c]) z:=⟨A,c,rfl,u⟩
structure Dd (m e:Int) (x:Rat) (L:Nat) (lo hi:Int):Prop where
 can:Dy.Can m e
 val:Dy.dv m e=x
 sz:Sz m L
 lo:lo≤e
 hi:e≤hi
def Dn (w:World) (v:Value) (x:Rat) (L:Nat) (lo hi:Int):Prop:=∃ m e A c,v = .agg #[.bool (decide (m<0)),.slice A (limbs m.natAbs).length c,.int .i64 e]∧Un w (.slice A (limbs m.natAbs).length c) m.natAbs∧Dd m e x L lo hi
theorem Dn.mk {w:World} {A:Option Addr} {c L:Nat} {m e lo hi:Int} {x:Rat} (u:Un w (.slice A (limbs m.natAbs).length c) m.natAbs) (h1:Dy.Can m e) (h2:Dy.dv m e=x) (h3:Sz m L) (h4:lo≤e) (h5:e≤hi) :
 Dn w (.agg #[.bool (decide (m<0)),.slice A (limbs m.natAbs).length c,.int .i64 e]) x L lo hi:=⟨m,e,A,c,rfl,u,h1,h2,h3,h4,h5⟩
def Qn (w:World) (v:Value) (q:Rat) (L M:Nat):Prop:=∃ A c A2 c2,v = .agg #[.bool (decide (q.num<0)),.slice A (limbs q.num.natAbs).length c,.slice A2 (limbs q.den).length c2]∧Un w (.slice A (limbs q.num.natAbs).length c) q.num.natAbs∧Un w (.slice A2 (limbs q.den).length c2) q.den∧Sz q.num L∧Sn q.den M
theorem Qn.mk {w:World} {A A2:Option Addr} {c c2 L M:Nat} {q:Rat} (u:Un w (.slice A (limbs q.num.natAbs).length c) q.num.natAbs) (u2:Un w (.slice A2 (limbs q.den).length c2) q.den) (h1:Sz q.num L) (h2:Sn q.den M) :
 Qn w (.agg #[.bool (decide (q.num<0)),.slice A (limbs q.num.natAbs).length c,.slice A2 (limbs q.den).length c2]) q L M:=⟨A,c,A2,c2,rfl,u,u2,h1,h2⟩
theorem Dn.le {w:World} {v:Value} {x:Rat} {L M:Nat} {lo hi lo' hi':Int} (h:Dn w v x L lo hi) (h1:L≤M) (h2:lo'≤lo) (h3:hi≤hi'):Dn w v x M lo' hi':=by
 obtain ⟨m,e,A,c,rfl,u,d⟩:=h
 exact ⟨m,e,A,c,rfl,u,d.can,d.val,d.sz.le h1,Int.le_trans h2 d.lo,Int.le_trans d.hi h3⟩
section
variable {P:Program} {T:TypeId} {x y:Operand} {a b:Int}
theorem yt (h : -9223372036854775808≤a+b∧a+b≤9223372036854775807) (X:World):Pl.Bn P .add T x y (.int .i64 a) (.int .i64 b) X = .ok (.int .i64 (a+b)) X:=Pl.VK (Pl.Oy h.1 h.2) X
theorem jH (h : -9223372036854775808≤a-b∧a-b≤9223372036854775807) (X:World):Pl.Bn P .sub T x y (.int .i64 a) (.int .i64 b) X = .ok (.int .i64 (a-b)) X:=Pl.ZZ (Pl.Oy h.1 h.2) X
theorem eH (h : -9223372036854775807≤a∧a≤9223372036854775807) (X:World):(Op.unary .neg (.int .i64 a)).run P X = .ok (.int .i64 (-a)) X:=by
 have:=Pl.Oy (z := -a) (by omega) (by omega)
 simp [Op.unary,Op.intArith,this]
theorem kZ (h:a<b) (X:World):Pl.Bn P .lss T x y (.int .i64 a) (.int .i64 b) X = .ok (.bool true) X:=Pl.G7 (decide_eq_true h) X
theorem jG (h:¬ a<b) (X:World):Pl.Bn P .lss T x y (.int .i64 a) (.int .i64 b) X = .ok (.bool false) X:=Pl.G7 (decide_eq_false h) X
theorem sF (h:a>b) (X:World):Pl.Bn P .gtr T x y (.int .i64 a) (.int .i64 b) X = .ok (.bool true) X:=Pl.Bw (decide_eq_true h) X
theorem BU (h:¬ a>b) (X:World):Pl.Bn P .gtr T x y (.int .i64 a) (.int .i64 b) X = .ok (.bool false) X:=Pl.Bw (decide_eq_false h) X
theorem iP (h:a≥b) (X:World):Pl.Bn P .geq T x y (.int .i64 a) (.int .i64 b) X = .ok (.bool true) X:=Pl.VN (decide_eq_true h) X
theorem jm (h:¬ a≥b) (X:World):Pl.Bn P .geq T x y (.int .i64 a) (.int .i64 b) X = .ok (.bool false) X:=Pl.VN (decide_eq_false h) X
theorem ed (h:a=b) (X:World):Pl.Bn P .eql T x y (.int .i64 a) (.int .i64 b) X = .ok (.bool true) X:=Pl.gW (Pl.e_t h) X
theorem jB (h:¬ a=b) (X:World):Pl.Bn P .eql T x y (.int .i64 a) (.int .i64 b) X = .ok (.bool false) X:=Pl.gW (Pl.e_f h) X
theorem sD (h:a≠b) (X:World):Pl.Bn P .neq T x y (.int .i64 a) (.int .i64 b) X = .ok (.bool true) X:=Pl.Mx (by simp [h]) X
theorem om (h:¬ a≠b) (X:World):Pl.Bn P .neq T x y (.int .i64 a) (.int .i64 b) X = .ok (.bool false) X:=Pl.Mx (by have:=Classical.not_not.1 h;simp [this]) X
end
section
variable {P:Program} {L:List Oper} {S:World→Prop} {K:List (Nat × Value)→World→Prop} {kk:Bool} {i m d:Nat} {o:Oper} {x y:Operand} {r:List (Bool × Nat × Nat)} {l:List (Nat × Value)} {w:World} {a b:Int} {k:IntKind}
theorem KJ {t:Array TypeId} (hS:S w) (ho:Pl.nth L i=some o) (hop:o.op = .call { callee:=.builtin .min,args:=#[x,y],argTypes:=t }) (hd:o.dst=some d) (hg:Pl.gd L l o.guard=some true) (hx:Pl.dA l x=some (.int k a)) (hy:Pl.dA l y=some (.int k b))
  (h:Pl.gM P L S K r ((d,.int k (min a b))::l) w):Pl.gM P L S K ((kk,i,m)::r) l w :=
 Pl.iC hS ho hd hg (fun ρ hρ X _=>by
  unfold execOp;rw [hop]
  refine Pl.dK (Builtin.min_ _ _ (#[x,y].map ρ)) X ?_
  rw [show #[x,y].map ρ=#[.int k a,.int k b] from by simp [hρ.dA hx,hρ.dA hy]]
  have e:min a b=if b<a then b else a:=by split<;>omega
  rw [e]
  exact run_min_int2 _ _ _ _ _ _ _) h
end
theorem Pl.Fa {P:Program} {Q:Exit→Act→World→Prop} {n:Nat} {ds:List Deferred} {cs:List Code} {l:List (Nat × Value)} {w:World} {c:Code} (R:List (Nat × Value)→World→Prop) (h1:∀ l' w',R l' w'→Pl.V P Q n ds cs l' w') (h2:(∀ l' w',R l' w'→Pl.V P Q n ds cs l' w')→Pl.V P Q n ds (c::cs) l w):Pl.V P Q n ds (c::cs) l w:=h2 h1
section
variable {n:Nat} {cs:List Code} {l:List (Nat × Value)} {w:World} {fn:Func} {R:Ending→World→Prop}
theorem Pl.aV {t:Tmp} {N:Nat} {T ty:TypeId} {vs:List Value} {d:TypeDesc} (hr:fn.results=#[.cell t ty]) (hv:Pl.look l t=some (.pointer (some ⟨N,0,none⟩)))
  (hC:Pl.Cb w N T vs) (hu:Tryz.prog.underlying ty=some d) (hd:d.isRow=true) (hi:(Tryz.prog.info? ty).map (·.size)=some vs.length) (h:R (.returned (.agg vs.toArray)) w):Pl.V Tryz.prog (bodyPost Tryz.prog fn R) n [] (.ret::cs) l w:=Pl.Ef fun a ha=>by
 refine ⟨ha.defers,_,?_,h⟩
 unfold results
 rw [hr]
 have e:a.tmps.getD t undef = .pointer (some ⟨N,0,none⟩):=by rw [Array.getD_eq_getD_getElem?,ha.look t _ hv];rfl
 have hl:=hC.load (o:=0) (part:=vs) (by simp) hu hd hi
 simp only [Instr.loadAt,Instr.sureAddr,Sem.run_bind,Sem.run_pure,Result.andThen_ok] at hl
 simp only [List.mapM_toArray,List.mapM_cons,List.mapM_nil,e,asAddr,Sem.run_bind,Sem.run_pure,Result.andThen_ok]
 simp [hl,Sem.run_bind,Result.andThen]
theorem Pl.kE {t t2:Tmp} {N:Nat} {T ty:TypeId} {vs:List Value} {v2:Value} {d:TypeDesc} (hr:fn.results=#[.cell t ty,.tmp t2]) (hv:Pl.look l t=some (.pointer (some ⟨N,0,none⟩))) (hv2:Pl.look l t2=some v2)
  (hC:Pl.Cb w N T vs) (hu:Tryz.prog.underlying ty=some d) (hd:d.isRow=true) (hi:(Tryz.prog.info? ty).map (·.size)=some vs.length) (h:R (.returned (.tuple #[.agg vs.toArray,v2])) w):Pl.V Tryz.prog (bodyPost Tryz.prog fn R) n [] (.ret::cs) l w:=Pl.Ef fun a ha=>by
 refine ⟨ha.defers,_,?_,h⟩
 unfold results
 rw [hr]
 have e:a.tmps.getD t undef = .pointer (some ⟨N,0,none⟩):=by rw [Array.getD_eq_getD_getElem?,ha.look t _ hv];rfl
 have e2:a.tmps.getD t2 undef=v2:=by rw [Array.getD_eq_getD_getElem?,ha.look t2 v2 hv2];rfl
 have hl:=hC.load (o:=0) (part:=vs) (by simp) hu hd hi
 simp only [Instr.loadAt,Instr.sureAddr,Sem.run_bind,Sem.run_pure,Result.andThen_ok] at hl
 simp only [List.mapM_toArray,List.mapM_cons,List.mapM_nil,e,e2,asAddr,Sem.run_bind,Sem.run_pure,Result.andThen_ok]
 simp [hl,Sem.run_bind,Result.andThen]
end
end Go.Proofs.YtdpmbgomcjnohaaGreatDoor
/- Noughts behind a number: the table, words, naturals. -/
namespace Go.Proofs.YtdpmbgomcjnohaaGreatDoor
open Go.RowKit
set_option linter.all false
set_option maxRecDepth 100000
set_option maxHeartbeats 8000000
def Hf:List Nat:=[0,1,28,2,29,14,24,3,30,22,20,15,25,17,4,8,31,27,13,23,21,19,16,7,26,12,18,6,11,5,10,9]
def Gt (w:World):Prop:=0<w.heap.size∧∀ i,i<32→w.cell? ⟨0,i,none⟩=some (.int .u8 ((lb Hf i:Nat):Int))
theorem Gt.ext {w w':World} (h:Gt w) (k:Ext w w'):Gt w':=⟨Nat.lt_of_lt_of_le h.1 k.size,fun i hi=>(Below.cell k h.1).trans (h.2 i hi)⟩
theorem XR:∀ k:Fin 32,lb Hf ((2^k.val*125613361)%4294967296/134217728)=k.val∧(2^k.val*125613361)%4294967296/134217728<32:=by decide +kernel
theorem UL (n j:Nat) (h:j<2^n):(2*j+1)&&&(2*(2^n-(j+1))+1)=1:=by
 apply Nat.eq_of_testBit_eq
 intro i
 rw [Nat.testBit_and]
 cases i with
 | zero=>simp [Nat.testBit_zero,Nat.add_mod]
 | succ i =>
  rw [Nat.testBit_succ,Nat.testBit_succ,Nat.testBit_succ,show (2*j+1)/2=j by omega,show (2*(2^n-(j+1))+1)/2=2^n-(j+1) by omega,Nat.testBit_two_pow_sub_succ h]
  cases j.testBit i<;>simp
theorem UM (k j n:Nat) (h:j<2^n):(2^k*(2*j+1))&&&(2^(k+(n+1))-2^k*(2*j+1))=2^k:=by
 have e:2^(k+(n+1))-2^k*(2*j+1)=2^k*(2*(2^n-(j+1))+1):=by
  rw [Nat.pow_add,← Nat.mul_sub,Nat.pow_succ]
  congr 1
  omega
 rw [e,Nat.mul_comm (2^k),Nat.mul_comm (2^k),← Nat.shiftLeft_eq,← Nat.shiftLeft_eq,← Nat.shiftLeft_and_distrib,UL n j h,Nat.shiftLeft_eq,Nat.one_mul]
theorem yl (n:Nat) (h:n≠0):∃ k o,n=2^k*(2*o+1):=by
 induction n using Nat.strongRecOn with
 | _ n ih =>
  rcases Nat.mod_two_eq_zero_or_one n with h2 | h2
  · obtain ⟨k,o,e⟩:=ih (n/2) (by omega) (by omega)
    refine ⟨k+1,o,?_⟩
    have:n=2*(n/2):=by omega
    rw [this,e,Nat.pow_succ,Nat.mul_right_comm,Nat.mul_comm _ 2]
  · exact ⟨0,n/2,by rw [Nat.pow_zero];omega⟩
theorem EU {n k o b:Nat} (e:n=2^k*(2*o+1)) (h:n<2^b):k<b:=by
 refine (Nat.pow_lt_pow_iff_right (a:=2) (by decide)).1 (Nat.lt_of_le_of_lt ?_ h)
 rw [e]
 exact Nat.le_mul_of_pos_right _ (by omega)
theorem Rk {x k o:Nat} (e:x=2^k*(2*o+1)) (h:x<4294967296):k<32∧x&&&(4294967296-x)=2^k:=by
 have hk:k<32:=EU e (b:=32) h
 refine ⟨hk,?_⟩
 have h2:o<2^(31-k):=by
  have h3:2^k*(2*o+1)<2^k*2^(32-k):=by rw [← Nat.pow_add,show k+(32-k)=32 by omega,← e];exact h
  have h4:=Nat.lt_of_mul_lt_mul_left h3
  rw [show 32-k=(31-k)+1 by omega,Nat.pow_succ] at h4
  omega
 have h5:=UM k o (31-k) h2
 rw [show k+(31-k+1)=32 by omega,← e] at h5
 exact h5
theorem UN {xs:List Nat} {i k o:Nat} (h0:∀ j,j<i→lb xs j=0) (hi:i<xs.length) (e:lb xs i=2^k*(2*o+1)) (hk:k<32):∃ o',val xs=2^(32*i+k)*(2*o'+1):=by
 induction xs generalizing i with
 | nil=>simp at hi
 | cons x xs ih =>
  cases i with
  | zero =>
   have e1:x=2^k*(2*o+1):=e
   refine ⟨o+2^(31-k)*val xs,?_⟩
   show x+4294967296*val xs=_
   have e2:(4294967296:Nat)=2^k*(2*2^(31-k)):=by rw [← Nat.pow_succ',← Nat.pow_add,show k+(31-k+1)=32 by omega]
   rw [e1,e2,Nat.mul_zero,Nat.zero_add,Nat.mul_assoc,← Nat.mul_add,Nat.mul_assoc 2]
   congr 1
   omega
  | succ i =>
   have hx:x=0:=h0 0 (by omega)
   obtain ⟨o',h'⟩:=ih (i:=i) (fun j hj=>h0 (j+1) (by omega)) (by simpa using hi) e
   refine ⟨o',?_⟩
   show x+4294967296*val xs=_
   rw [hx,h',Nat.zero_add,show (4294967296:Nat)=2^32 from rfl,← Nat.mul_assoc,← Nat.pow_add]
   congr 2
   omega
theorem IJ {xs:List Nat} (h:∀ j,j<xs.length→lb xs j=0):val xs=0:=by
 induction xs with
 | nil=>rfl
 | cons x xs ih =>
  have hx:x=0:=h 0 (by simp)
  show x+4294967296*val xs=0
  rw [hx,ih fun j hj=>h (j+1) (by simp;omega)]
end Go.Proofs.YtdpmbgomcjnohaaGreatDoor
/- Noughts behind a number. -/
namespace Go.Proofs.YtdpmbgomcjnohaaGreatDoor
open Go.RowKit 
set_option linter.all false
set_option maxRecDepth 100000
set_option maxHeartbeats 8000000
theorem UO {x:Nat} (h0:x≠0) (hx:x<4294967296) (X:World):(Op.unary .neg (.int .u32 ((x:Nat):Int))).run Tryz.prog X = .ok (.int .u32 ((4294967296-x:Nat):Int)) X:=by
 have e:IntKind.u32.wrap (-((x:Nat):Int))=((4294967296-x:Nat):Int):=by
  rw [Pl.ZY];omega
 simp [Op.unary,Op.intArith,e]
theorem FC {x n p:Nat} {T:TypeId} {a b:Operand} (h:x&&&n=p) (hx:x<4294967296) (hn:n<4294967296) (X:World):Pl.Bn Tryz.prog .and T a b (.int .u32 ((x:Nat):Int)) (.int .u32 ((n:Nat):Int)) X = .ok (.int .u32 ((p:Nat):Int)) X:=by
 subst h
 exact Pl.XJ .and (.inl rfl) .u32 rfl hx hn (·&&&·) ⟨fun _=>rfl,(fun h=>by cases h),(fun h=>by cases h)⟩ X
theorem UQ (p:Nat) {T:TypeId} {a b:Operand} (X:World):Pl.Bn Tryz.prog .mul T a b (.int .u32 ((p:Nat):Int)) (.int .u32 125613361) X = .ok (.int .u32 ((p*125613361%4294967296:Nat):Int)) X :=
 Pl.Z0 (by rw [Pl.ZY];omega) X
theorem UR {n i:Nat} {T:TypeId} {a b:Operand} (h:n/134217728=i) (X:World):Pl.Bn Tryz.prog .shr T a b (.int .u32 ((n:Nat):Int)) (.int .u64 27) X = .ok (.int .u32 ((i:Nat):Int)) X:=by
 subst h
 exact Pl.Z4 (m:=27) rfl (by decide) X
theorem XT (j:Nat):(⟨0,0,none⟩:Addr).add (j*1)=⟨0,j,none⟩:=by simp [Addr.add];omega
theorem Rl (w:World) (hg:Gt w) (x:Nat) (h0:x≠0) (hx:x<4294967296) :
  Calls Tryz.prog 101 #[.int .u32 ((x:Nat):Int)] w fun e w'=>∃ k o:Nat,e = .returned (.int .i64 ((k:Nat):Int))∧x=2^k*(2*o+1)∧k<32∧Pl.Ex w w':=by
 obtain ⟨k,o,hxo⟩:=yl x h0
 obtain ⟨hk,hand⟩:=Rk hxo hx
 have htab:=XR ⟨k,hk⟩
 simp only at htab
 obtain ⟨ix,hix⟩:∃ i,2^k*125613361%4294967296/134217728=i:=⟨_,rfl⟩
 rw [hix] at htab
 have hp:2^k<4294967296:=Nat.lt_of_le_of_lt (by rw [← hand];exact Nat.and_le_left) hx
 obtain ⟨p,hpk⟩:∃ p,2^k=p:=⟨_,rfl⟩
 rw [hpk] at hand hix hp
 refine Pl.aN (n:=14) (vs:=[.int .u32 ((x:Nat):Int)]) Tryz.func101 rfl (by kernel_rfl) (by simp) ?_
 repeat refine Pl.af ?_
 refine Pl.ah (by kernel_rfl) ?_
 refine Pl.aG trivial rfl ?_
 refine Pl.aj ?_
 repeat refine Pl.af ?_
 refine Pl.ah (by kernel_rfl) ?_
 refine Pl.aG trivial rfl ?_
 have Zc:¬ (x=0):=h0
 refine Pl.bP (v:=.bool false) (fun X=>Pl.gW (Pl.e_f (by omega)) X) trivial rfl rfl rfl rfl rfl rfl ?_
 refine Pl.aj ?_
 repeat refine Pl.af ?_
 refine Pl.dH rfl ?_
 repeat refine Pl.af ?_
 refine Pl.fG ?_
 repeat refine Pl.af ?_
 refine Pl.ah (by kernel_rfl) ?_
 refine Pl.aG trivial rfl ?_
 refine Pl.qb (v:=.int .u32 ((4294967296-x:Nat):Int)) trivial rfl rfl rfl rfl rfl (fun X=>UO h0 hx X) ?_
 refine Pl.bP (v:=.int .u32 ((p:Nat):Int)) (fun X=>FC hand hx (by omega) X) trivial rfl rfl rfl rfl rfl rfl ?_
 refine Pl.bP (v:=.int .u32 (((p*125613361%4294967296):Nat):Int)) (fun X=>UQ p X) trivial rfl rfl rfl rfl rfl rfl ?_
 refine Pl.bP (v:=.int .u32 ((ix:Nat):Int)) (fun X=>UR hix X) trivial rfl rfl rfl rfl rfl rfl ?_
 refine Pl.Pm (s:=1) (j:=ix) Tryz.underlying121 (by kernel_rfl) rfl (by omega) trivial rfl rfl rfl rfl rfl rfl ?_
 refine Pl.bD (v:=.int .u8 ((k:Nat):Int)) Tryz.underlying5 rfl ((by rw [XT];have:=(hg.ext (Pl.Ex.refl _)).2 ix htab.2;rw [htab.1] at this;exact this)) trivial rfl rfl rfl rfl rfl ?_
 refine Pl.Ec (c:=((k:Nat):Int)) Tryz.underlying3 (by kernel_rfl) (Pl.adM (a:=k) rfl (Pl.Oy (by omega) (by omega))) trivial rfl rfl rfl rfl rfl ?_
 refine Pl.aG trivial rfl ?_
 refine Pl.aj ?_
 repeat refine Pl.af ?_
 exact Pl.aZ rfl rfl  (⟨k,o,rfl,hxo,hk,(Pl.Ex.refl _)⟩)
theorem UT (n i:Nat):lb (limbs n) i<4294967296:=by
 rcases Nat.lt_or_ge i (limbs n).length with h | h
 · unfold lb;rw [List.getElem?_eq_getElem h];exact qo n _ (List.getElem_mem h)
 · unfold lb;rw [List.getElem?_eq_none h];decide
theorem UU {xs:List Nat} {i:Nat} (h:∀ j,j<i→lb xs j=0) (he:lb xs i=0):∀ j,j<i+1→lb xs j=0:=fun j hj=>by
 rcases Nat.lt_or_ge j i with h1 | h1
 · exact h j h1
 · obtain rfl:j=i:=by omega
   exact he
theorem IK (w:World) (hg:Gt w) (va:Value) (a:Int) (ha:Zn w va a) (h0:¬ a=0) (K:Nat) (la:Sz a K) (hK:K≤30000) :
  Calls Tryz.prog 64 #[va] w fun e w'=>∃ k o:Nat,e = .returned (.int .i64 ((k:Nat):Int))∧a.natAbs=2^k*(2*o+1)∧k<32*K∧Pl.Ex w w':=by
 obtain ⟨A,c,rfl,ua⟩:=ha
 have hn0:a.natAbs≠0:=by omega
 have hL:(limbs a.natAbs).length≤K:=la
 have hlen:=rQ hn0
 refine Pl.aN (n:=23) (vs:=[.agg #[.bool (decide (a<0)),.slice A (limbs (Int.natAbs a)).length c]]) Tryz.func64 rfl (by kernel_rfl) (by simp) ?_
 repeat refine Pl.af ?_
 refine Pl.ah (by kernel_rfl) ?_
 refine Pl.bF (cs:=[.bool (decide (a<0)),.slice A (limbs (Int.natAbs a)).length c]) rfl rfl rfl rfl rfl rfl (fun Y hY=>trivial) ?_
 intro N1 w1 hE1 bT ak
 have dP:=Pl.Cb.lt ak
 have jC:=Pl.Ex.size hE1
 refine Pl.aG trivial rfl ?_
 refine Pl.aj ?_
 repeat refine Pl.af ?_
 refine Pl.ah (by kernel_rfl) ?_
 refine Pl.aG trivial rfl ?_
 refine Pl.aj ?_
 repeat refine Pl.af ?_
 refine Pl.ah (by kernel_rfl) ?_
 refine Pl.aL (.pointer (some ⟨N1,1,none⟩)) trivial rfl rfl rfl rfl (fun X=>by kernel_rfl) ?_
 refine Pl.bD (v:=.slice A (limbs (Int.natAbs a)).length c) Tryz.underlying22 rfl (Pl.Cb.at (j:=1) ak rfl) trivial rfl rfl rfl rfl rfl ?_
 refine Pl.su Tryz.underlying22 trivial rfl rfl rfl rfl rfl ?_
 refine Pl.aG trivial rfl ?_
 refine Pl.aj ?_
 repeat refine Pl.af ?_
 refine Pl.nu ?_
 repeat refine Pl.af ?_
 refine Pl.lI [(3,.int .i64 0),(7,.slice A (limbs (Int.natAbs a)).length c),(8,.int .i64 (((limbs (Int.natAbs a)).length:Nat):Int)),(9,.int .i64 0)] (Pl.aC rfl (Pl.aC rfl (Pl.aC rfl (Pl.aC rfl Pl.dW)))) ?_
 repeat refine Pl.af ?_
 refine Pl.ym (fun kq l' w'=>∃ i,((limbs a.natAbs).length-i)=kq∧Pl.Ex w1 w'∧(i≤(limbs a.natAbs).length)∧(∀ j,j<i→lb (limbs a.natAbs) j=0)∧l'=[(3,.int .i64 (((32*i):Nat):Int)),(7,.slice A (limbs (Int.natAbs a)).length c),(8,.int .i64 (((limbs a.natAbs).length:Nat):Int)),(9,.int .i64 ((i:Nat):Int))]) _ ⟨0,rfl,Pl.Ex.refl _,(Nat.zero_le _),(fun j h=>by omega),rfl⟩ ?_
 rintro kq _ w2 ⟨i,hk2,hE2,hi,hz,rfl⟩
 have jM:=Pl.Ex.size hE2
 repeat refine Pl.af ?_
 refine Pl.ah (by kernel_rfl) ?_
 by_cases c2:i<((limbs a.natAbs).length)
 · refine Pl.bP (v:=.bool true) (fun X=>Pl.G7 (decide_eq_true (by omega)) X) trivial rfl rfl rfl rfl rfl rfl ?_
   refine Pl.aj ?_
   repeat refine Pl.af ?_
   refine Pl.fP rfl ?_
   repeat refine Pl.af ?_
   refine Pl.fG ?_
   repeat refine Pl.af ?_
   refine Pl.nu ?_
   repeat refine Pl.af ?_
   refine Pl.ah (by kernel_rfl) ?_
   obtain ⟨ad,hA1,hcell⟩:=Hy ua (show i<(limbs a.natAbs).length by omega)
   subst hA1
   refine Pl.Hz (s:=1) (j:=i) Tryz.underlying22 (by kernel_rfl) rfl (by omega) trivial rfl rfl rfl rfl rfl rfl ?_
   refine Pl.bD (v:=.int .u32 ((lb (limbs a.natAbs) i:Nat):Int)) Tryz.underlying67 rfl (hcell _ (Pl.Ex.trans hE1 hE2)) trivial rfl rfl rfl rfl rfl ?_
   refine Pl.aG trivial rfl ?_
   refine Pl.aj ?_
   repeat refine Pl.af ?_
   refine Pl.ah (by kernel_rfl) ?_
   refine Pl.aG trivial rfl ?_
   by_cases c3:(lb (limbs a.natAbs) i)≠0
   · refine Pl.bP (v:=.bool true) (fun X=>Pl.Mx (Pl.n_t (by omega)) X) trivial rfl rfl rfl rfl rfl rfl ?_
     refine Pl.aj ?_
     repeat refine Pl.af ?_
     refine Pl.fP rfl ?_
     repeat refine Pl.af ?_
     refine Pl.ah (by kernel_rfl) ?_
     have hx32:lb (limbs a.natAbs) i<4294967296:=UT _ i
     refine Pl.aG trivial rfl ?_
     refine Pl.ay rfl rfl rfl rfl rfl (fun u X=>Pl.enters Tryz.func101 (by kernel_rfl) rfl u X) ?_
     refine Calls.mono (Rl _ (hg.ext (Pl.Ex.trans hE1 hE2)) (lb (limbs a.natAbs) i) c3 hx32) ?_
     rintro e w3 ⟨k,o,rfl,hko,WJ,aJ⟩
     have jX:=Pl.Ex.size aJ
     refine ⟨_,rfl,trivial,?_⟩
     refine Pl.bP (v:=.int .i64 ((((32*i)+k):Nat):Int)) (fun X=>iG (a:=(32*i)) (b:=k) (by omega) X) trivial rfl rfl rfl rfl rfl rfl ?_
     refine Pl.aG trivial rfl ?_
     refine Pl.aj ?_
     obtain ⟨o',ho'⟩:=UN hz (show i<(limbs a.natAbs).length by omega) hko WJ
     rw [aH] at ho'
     repeat refine Pl.af ?_
     refine Pl.Ef fun aQ hQ=>?_
     repeat first | refine Pl.Q4 ?_ | refine Pl.KE ?_ | refine Pl.NK ?_ | refine Pl.QD ?_
     exact Pl.Uy hQ rfl rfl  (⟨32*i+k,o',rfl,ho',by omega,(Pl.Ex.trans hE1 (Pl.Ex.trans hE2 aJ))⟩)
   · refine Pl.bP (v:=.bool false) (fun X=>Pl.Mx (Pl.n_f (by omega)) X) trivial rfl rfl rfl rfl rfl rfl ?_
     refine Pl.aj ?_
     repeat refine Pl.af ?_
     refine Pl.dH rfl ?_
     repeat refine Pl.af ?_
     refine Pl.fG ?_
     repeat refine Pl.af ?_
     refine Pl.ah (by kernel_rfl) ?_
     refine Pl.aG trivial rfl ?_
     refine Pl.bP (v:=.int .i64 ((((32*i)+32):Nat):Int)) (fun X=>iG (a:=(32*i)) (b:=32) (by omega) X) trivial rfl rfl rfl rfl rfl rfl ?_
     refine Pl.aG trivial rfl ?_
     refine Pl.aj ?_
     refine Pl.oh ?_
     repeat refine Pl.af ?_
     refine Pl.ah (by kernel_rfl) ?_
     refine Pl.bP (v:=.int .i64 (((i+1):Nat):Int)) (fun X=>iG (a:=i) (b:=1) (by omega) X) trivial rfl rfl rfl rfl rfl rfl ?_
     refine Pl.aG trivial rfl ?_
     refine Pl.aj ?_
     repeat refine Pl.af ?_
     refine Pl.zY (k':=((limbs a.natAbs).length-(i+1))) [(3,.int .i64 ((((32*i)+32):Nat):Int)),(7,.slice (some ad) (limbs a.natAbs).length c),(8,.int .i64 (((limbs a.natAbs).length:Nat):Int)),(9,.int .i64 (((i+1):Nat):Int))] (Pl.aC rfl (Pl.aC rfl (Pl.aC rfl (Pl.aC rfl Pl.dW)))) (by omega) ⟨(i+1),rfl,hE2,(by omega),(UU hz (Classical.not_not.1 c3)),rfl⟩
 · refine Pl.bP (v:=.bool false) (fun X=>Pl.G7 (decide_eq_false (by omega)) X) trivial rfl rfl rfl rfl rfl rfl ?_
   refine Pl.aj ?_
   repeat refine Pl.af ?_
   refine Pl.dH rfl ?_
   repeat refine Pl.af ?_
   refine Pl.Br ?_
   repeat refine Pl.af ?_
   refine Pl.ah (by kernel_rfl) ?_
   refine Pl.aG trivial rfl ?_
   refine Pl.aj ?_
   repeat refine Pl.af ?_
   exact absurd (IJ (xs:=limbs a.natAbs) fun j hj=>hz j (by omega)) (by rw [aH];exact hn0)
end Go.Proofs.YtdpmbgomcjnohaaGreatDoor
