/- The document's division, bit by bit. -/
import Derived.Test.YtfhcmggpojhegaaGreatDoorBar
import Derived.Test.YtfhcmggpojhegaaGreatDoorBas
import Derived.Test.YtfhcmggpojhegaaGreatDoorBac
import Derived.Test.YtfhcmggpojhegaaGreatDoorBaq
import Derived.Test.YtfhcmggpojhegaaGreatDoorBad
import Derived.Scope

namespace Go.Proofs.YtfhcmggpojhegaaGreatDoor
open Go.RowKit
set_option linter.unusedVariables false
set_option maxHeartbeats 400000
theorem agN (o:List Nat) (k:Nat) (hx:∀ x∈o,x<4294967296):lb o k=val o/4294967296^k%4294967296:=by
 rw [← MR o k hx]
 rcases Nat.lt_or_ge k o.length with h | h
 · rw [lK o k h,Nat.add_mul_mod_self_left,Nat.mod_eq_of_lt (eU hx k)]
 · rw [nN h,List.drop_eq_nil_of_le h];rfl
structure Vh (a b La j:Nat) (o:List Nat):Prop where
 len:o.length=La
 lt:∀ x∈o,x<4294967296
 val:val o=a/2^j/b*2^j
theorem Ta (a j:Nat):a/2^j=2*(a/2^(j+1))+a/2^j%2:=by
 rw [Nat.pow_succ,← Nat.div_div_eq_div_mul]
 exact (Nat.div_add_mod _ _).symm
theorem Vh.none {a b La j:Nat} {o:List Nat} (h:Vh a b La (j+1) o) (bit r:Nat) (hb:a/2^j%2=bit) (hr:a/2^(j+1)%b=r) (hlt:2*r+bit<b):Vh a b La j o∧a/2^j%b=2*r+bit:=by
 have h1:=Ta a j
 rw [hb] at h1
 obtain ⟨h2,h3⟩:=agx (a/2^(j+1)) b bit _ r rfl hr hlt
 refine ⟨⟨h.len,h.lt,?_⟩,by rw [h1];exact h3⟩
 rw [h.val,h1,h2,Nat.pow_succ,Nat.mul_comm (2^j) 2,← Nat.mul_assoc,Nat.mul_comm _ 2]
theorem Vh.more {a b La j:Nat} {o:List Nat} (h:Vh a b La (j+1) o) (hb0:0<b) (bit r k s P x:Nat) (hb:a/2^j%2=bit) (hr:a/2^(j+1)%b=r) (hge:b≤2*r+bit) (hk:j/32=k) (hs:j%32=s) (hP:2^s=P) (hx:lb o k=x) (hkl:k<La) :
  x+P<4294967296∧Vh a b La j (o.set k (x+P))∧a/2^j%b=2*r+bit-b:=by
 have h1:=Ta a j
 rw [hb] at h1
 have hbit:bit≤1:=by omega
 obtain ⟨h2,h3⟩:=acP (a/2^(j+1)) b bit _ r hb0 hbit rfl hr hge
 have hjs:j+1=32*k+(s+1):=by omega
 have ard:s<32:=by omega
 have h4:=agN o k h.lt
 rw [h.val,hx,hjs,Nat.pow_add,Cc,Nat.mul_comm (2^(32*k)),← Nat.mul_assoc,Nat.mul_div_cancel _ (Nat.two_pow_pos _)] at h4
 have h5:x+P<4294967296:=by
  obtain ⟨d,hd⟩:∃ d,32=s+1+d:=⟨31-s,by omega⟩
  have e1:(4294967296:Nat)=2^(s+1)*2^d:=by rw [← Nat.pow_add,← hd]
  generalize a/(2^(s+1)*2^(32*k))/b=Q at h4
  rw [e1,Nat.mul_comm Q,Nat.mul_mod_mul_left] at h4
  have e2:Q%2^d<2^d:=Nat.mod_lt _ (Nat.two_pow_pos _)
  have e3:2^(s+1)*(Q%2^d+1)≤2^(s+1)*2^d:=Nat.mul_le_mul_left _ e2
  have e4:2^(s+1)=P*2:=by rw [Nat.pow_succ,hP]
  have e5:0<P:=by rw [← hP];exact Nat.two_pow_pos _
  rw [Nat.mul_add,Nat.mul_one] at e3
  omega
 refine ⟨h5,⟨by simp [h.len],fO h.lt h5,?_⟩,by rw [h1];exact h3⟩
 have h6:=tY o k (x+P) (by rw [h.len];exact hkl)
 rw [hx,h.val,Nat.add_mul] at h6
 have h7:P*4294967296^k=2^j:=by rw [← hP,Cc,← Nat.pow_add];congr 1;omega
 rw [h7] at h6
 have h8:a/2^j/b*2^j=a/2^(j+1)/b*2^(j+1)+2^j:=by
  rw [h1,h2,Nat.add_mul,Nat.one_mul,Nat.pow_succ,Nat.mul_comm (2^j) 2,← Nat.mul_assoc,Nat.mul_comm _ 2]
 rw [h8]
 omega
end Go.Proofs.YtfhcmggpojhegaaGreatDoor
/- The same contracts, with where the answers lie: in blocks that the call has made. -/
namespace Go.Proofs.YtfhcmggpojhegaaGreatDoor
open Go.RowKit
set_option linter.unusedVariables false
set_option maxHeartbeats 400000
set_option maxRecDepth 100000
attribute [local go_sem ↓] fU
attribute [local go_sem] bY
def Fr0 (b:Nat) (v:Value):Prop:=∀ (ad:Addr) (n c:Nat),v = .slice (some ad) n c→b≤ad.block
theorem Fr0.mono {b b':Nat} {v:Value} (h:Fr0 b v) (hb:b'≤b):Fr0 b' v:=fun ad n c e=>Nat.le_trans hb (h ad n c e)
theorem U.old {w w':World} {B:Nat} {w0:World} {v:Value} {xs:List Nat} (h:U w0 v xs) (he:Ext w0 w) (hB:w0.heap.size≤B) (hb:But B w w'):U w' v xs:=by
 refine h.keep (Nat.le_trans he.size hb.size) fun p hp=>?_
 rw [hb.cell (by have:=he.size;omega) (by omega)]
 exact he.cell hp
end Go.Proofs.YtfhcmggpojhegaaGreatDoor
/- Naturals in slices, in the walk by plans. -/
namespace Go.Proofs.YtfhcmggpojhegaaGreatDoor
open Go.RowKit
set_option linter.all false
set_option maxRecDepth 100000
set_option maxHeartbeats 8000000
def Sn (n K:Nat):Prop:=(limbs n).length≤K
theorem Sn.le {n K M:Nat} (h:Sn n K) (hk:K≤M):Sn n M:=Nat.le_trans h hk
theorem Sn.zero {K:Nat}:Sn 0 K:=by show (limbs 0).length≤K;rw [bf];exact Nat.zero_le _
theorem Sn.lt {n K:Nat} (h:Sn n K):n<4294967296^K:=dX h
theorem Sn.of {n K:Nat} (h:n<4294967296^K):Sn n K:=jO h
theorem Sn.small {n K:Nat} (h:n<4294967296∧1≤K):Sn n K:=Nat.le_trans (jO (k:=1) (by rw [Nat.pow_one];exact h.1)) h.2
theorem Sn.down {n m K:Nat} (h:Sn n K) (hm:m≤n):Sn m K:=Sn.of (Nat.lt_of_le_of_lt hm h.lt)
theorem Sn.add {a b K J M:Nat} (ha:Sn a K) (hb:Sn b J) (hk:K+1≤M) (hj:J+1≤M):Sn (a+b) M:=by
 obtain ⟨m,rfl⟩:∃ m,M=m+1:=⟨M-1,by omega⟩
 have h1:=(ha.le (show K≤m by omega)).lt
 have h2:=(hb.le (show J≤m by omega)).lt
 refine Sn.of ?_
 rw [Nat.pow_succ]
 omega
theorem Sn.mul {a b K J M:Nat} (ha:Sn a K) (hb:Sn b J) (hk:K+J≤M):Sn (a*b) M:=by
 refine Sn.of (Nat.lt_of_lt_of_le (Nat.mul_lt_mul'' ha.lt hb.lt) ?_)
 rw [← Nat.pow_add]
 exact Nat.pow_le_pow_right (by decide) hk
theorem Sn.div {a b K:Nat} (h:Sn a K):Sn (a/b) K:=h.down (Nat.div_le_self _ _)
theorem Sn.mod {a b K:Nat} (h:Sn b K) (h0:b≠0):Sn (a%b) K:=h.down (Nat.le_of_lt (Nat.mod_lt _ (Nat.pos_of_ne_zero h0)))
theorem Sn.sz {n K:Nat} (h:Sn n K):Sz (n:Int) K:=h
theorem Un.nil (w:World) (A:Option Addr) (c:Nat):Un w (.slice A 0 c) 0:=by rw [Un,bf];exact U.Eo _ _ _
theorem KM {n:Nat} (h:0<n):(0:Int)<((limbs n).length:Int):=by
 rw [fH (by omega)];simp
theorem PS {n:Nat} (h:n=0):¬ (0:Int)<((limbs n).length:Int):=by
 subst h;rw [bf];simp
theorem U.one {w:World} {v:Value} (h:U w v [1]):Un w v 1:=by
 show U w _ (limbs 1)
 have e:limbs 1=[1]:=by rw [fH (by decide),show (1:Nat)%4294967296=1 from rfl,show (1:Nat)/4294967296=0 from rfl,bf]
 rw [e];exact h
end Go.Proofs.YtfhcmggpojhegaaGreatDoor
/- Small laws for the walk's printer (ax.py): numbers of unsigned kinds, comparisons, contracts of naturals in the printer's form. -/
namespace Go.Proofs.YtfhcmggpojhegaaGreatDoor
open Go.RowKit
set_option linter.all false
set_option maxRecDepth 100000
set_option maxHeartbeats 8000000
theorem Sn.bits {n b K:Nat} (h:n<2^b) (hk:b≤32*K):Sn n K:=Sn.of (Nat.lt_of_lt_of_le h (by rw [show (4294967296:Nat)=2^32 from rfl,← Nat.pow_mul];exact Nat.pow_le_pow_right (by decide) hk))
theorem Sn.one {n K:Nat} (h:n<4294967296) (hk:1≤K):Sn n K:=Sn.bits (b:=32) h (by omega)
theorem Sn.two {n:Nat} (h:n<18446744073709551616):Sn n 2:=Sn.bits (b:=64) h (by omega)
theorem Sn.aU {n K:Nat} (h:Sn n K):aU n≤32*K:=aT (by rw [Nat.pow_mul,show (2:Nat)^32=4294967296 from rfl];exact h.lt)
theorem Un.as {w:World} {v:Value} {n m:Nat} (h:Un w v n) (e:n=m):Un w v m:=e ▸ h
theorem Un.one {w:World} {N:Nat} {T:TypeId} {x:Nat} {z:Int} (h:Pl.Cb w N T [.int .u32 z]) (hz:z=(x:Int)) (h0:x≠0∧x<4294967296):Un w (.slice (some ⟨N,0,none⟩) 1 1) x:=by
 subst hz
 rw [Un,qY x h0.1 h0.2]
 refine ⟨_,1,rfl,⟨by simp,by simp⟩,by simpa using h0.2,fun _=>⟨_,rfl,h.lt,fun j hj=>?_⟩⟩
 have:j=0:=by simpa using hj
 subst this
 rw [gN]
 exact h.at (j:=0) rfl
theorem Un.len {w:World} {A:Option Addr} {L c n:Nat} (h:Un w (.slice A L c) n):L=(limbs n).length:=by
 obtain ⟨A',c',e,_⟩:=h;injection e
/-! Contracts. -/
theorem XW (w:World) (v:Value) (n k:Nat) (h:Un w v n) (hk:k≤1000000000) (hl:(limbs n).length≤1000000000) :
 Calls Tryz.prog 64 #[v,.int .i64 ((k:Nat):Int)] w fun e w'=>∃ u,e = .returned u∧Un w' u (n/2^k)∧Ext w w':=DK w v n k h (by omega) (by omega) hl _ (by rw [Int.toNat_natCast])
theorem FD (w:World) (v:Value) (n k:Nat) (h:Un w v n) (hk:k≤1000000000) (hl:(limbs n).length≤1000000000) :
 Calls Tryz.prog 68 #[v,.int .i64 ((k:Nat):Int)] w fun e w'=>∃ u,e = .returned u∧Un w' u (n*2^k)∧Ext w w':=MP w v n k h (by omega) (by omega) hl _ (by rw [Int.toNat_natCast])
theorem ofN (w:World) (k:Nat) (h1:k<18446744073709551616) :
 Calls Tryz.prog 62 #[.int .u64 ((k:Nat):Int)] w fun e w'=>∃ u,e = .returned u∧Un w' u k∧Ext w w':=of_B w k (by omega) (by omega) _ (by rw [Int.toNat_natCast])
theorem arT (w:World) (v:Value) (n:Nat) (h:Un w v n) (hn:n<18446744073709551616) :
  Calls Tryz.prog 61 #[v] w fun e w'=>e = .returned (.tuple #[.int .u64 ((n:Nat):Int),.bool true])∧Ext w w' :=
 Tq w v n h _ _ (by simp [En,hn]) (by simp [xS,hn])
theorem arU (w:World) (v:Value) (n:Nat) (h:Un w v n) (hn:¬ n<18446744073709551616) :
  Calls Tryz.prog 61 #[v] w fun e w'=>∃ z,e = .returned (.tuple #[.int .u64 z,.bool false])∧Ext w w' :=
 (Tq w v n h _ _ rfl (by simp [xS];omega)).mono fun e w' ⟨h1,h2⟩=>⟨_,h1,h2⟩
/-! Comparisons of what nat.Cmp tells. -/
theorem FE (n m:Nat):(n<m∧dY n m = -1)∨(n=m∧dY n m=0)∨(m<n∧dY n m=1):=by
 unfold dY
 rcases Nat.lt_trichotomy n m with h | h | h
 · exact .inl ⟨h,if_pos (by omega)⟩
 · exact .inr (.inl ⟨h,by rw [if_neg (by omega),if_neg (by omega)]⟩)
 · exact .inr (.inr ⟨h,by rw [if_neg (by omega),if_pos (by omega)]⟩)
section
variable {P:Program} {T:TypeId} {x y:Operand} {n m:Nat}
theorem Cm.FH (h:n<m) (X:World):Pl.Bn P .lss T x y (.int .i64 (dY n m)) (.int .i64 0) X = .ok (.bool true) X:=Pl.JD (by have:=FE n m;rw [decide_eq_true_eq];omega) X
theorem Cm.Nh (h:¬ n<m) (X:World):Pl.Bn P .lss T x y (.int .i64 (dY n m)) (.int .i64 0) X = .ok (.bool false) X:=Pl.JD (by have:=FE n m;rw [decide_eq_false_iff_not];omega) X
end
/-! Numbers of the kinds. -/
section
variable {P:Program} {T:TypeId} {x y:Operand} {a b:Nat} {za zb:Int}
theorem P9 (h:a+b<18446744073709551616) (X:World):Pl.Bn P .add T x y (.int .u64 ((a:Nat):Int)) (.int .u64 ((b:Nat):Int)) X = .ok (.int .u64 ((a+b:Nat):Int)) X:=Pl.XX (by rw [Pl.wu64 (by omega) (by omega)];omega) X
theorem eX (h:a+b≤9223372036854775807) (X:World):Pl.Bn P .add T x y (.int .i64 ((a:Nat):Int)) (.int .i64 ((b:Nat):Int)) X = .ok (.int .i64 ((a+b:Nat):Int)) X:=Pl.XX (Pl.a64 rfl rfl h) X
theorem Qa (h:b≤a∧a<18446744073709551616) (X:World):Pl.Bn P .sub T x y (.int .u64 ((a:Nat):Int)) (.int .u64 ((b:Nat):Int)) X = .ok (.int .u64 ((a-b:Nat):Int)) X:=Pl.aft (by rw [Pl.wu64 (by omega) (by omega)];omega) X
theorem Qb (h:a*b<18446744073709551616) (X:World):Pl.Bn P .mul T x y (.int .u64 ((a:Nat):Int)) (.int .u64 ((b:Nat):Int)) X = .ok (.int .u64 ((a*b:Nat):Int)) X:=Pl.XY (by rw [← Int.natCast_mul,Pl.wu64 (by omega) (by omega)]) X
theorem FI (h:a*b≤9223372036854775807) (X:World):Pl.Bn P .mul T x y (.int .i64 ((a:Nat):Int)) (.int .i64 ((b:Nat):Int)) X = .ok (.int .i64 ((a*b:Nat):Int)) X:=Pl.XY (by rw [← Int.natCast_mul,Pl.Ep (by omega) (by omega)]) X
theorem TC (a b:Nat):a/b≤a:=Nat.div_le_self a b
theorem FJ (h0:b≠0) (h:a<18446744073709551616) (X:World):Pl.Bn P .quo T x y (.int .u64 ((a:Nat):Int)) (.int .u64 ((b:Nat):Int)) X = .ok (.int .u64 ((a/b:Nat):Int)) X:=Pl.afu (by omega) (by rw [← Int.ofNat_tdiv];have:=TC a b;generalize a/b=q at *;exact Pl.wu64 (by omega) (by omega)) X
theorem yK (h0:b≠0) (h:a≤9223372036854775807) (X:World):Pl.Bn P .quo T x y (.int .i64 ((a:Nat):Int)) (.int .i64 ((b:Nat):Int)) X = .ok (.int .i64 ((a/b:Nat):Int)) X:=Pl.afu (by omega) (by rw [← Int.ofNat_tdiv];have:=TC a b;generalize a/b=q at *;exact Pl.Ep (by omega) (by omega)) X
theorem Pl.Bn.as {op:BinOp} {u u' v v':Value} (h:∀ X,Pl.Bn P op T x y u u' X = .ok v X) (e:v=v') (X:World):Pl.Bn P op T x y u u' X = .ok v' X:=e ▸ h X
theorem adn {m c:Nat} {k':IntKind} (h:2^m=c) (hm:m≤63) (X:World):Pl.Bn P .shl T x y (.int .u64 1) (.int k' ((m:Nat):Int)) X = .ok (.int .u64 ((c:Nat):Int)) X:=by
 have h2:(2:Nat)^m<18446744073709551616:=Nat.lt_of_lt_of_le (Nat.pow_lt_pow_right (by decide) (show m<64 by omega)) (by decide)
 have:=Pl.alS (P:=P) (T:=T) (x:=x) (y:=y) (k:=.u64) (k':=k') (n:=1) (m:=m) (c:=c) rfl (show m≤64 by omega) (by rw [Nat.one_mul,h];exact Pl.wu64 (by omega) (by omega)) X
 exact this
theorem l9 {m c:Nat} {k':IntKind} (h:a/2^m=c) (hm:m≤64) (X:World):Pl.Bn P .shr T x y (.int .u64 ((a:Nat):Int)) (.int k' ((m:Nat):Int)) X = .ok (.int .u64 ((c:Nat):Int)) X:=by
 subst h;exact Pl.alT rfl hm X
end
/-! Ways out of loops and blocks. -/
section
variable {P:Program} {Q:Exit→Act→World→Prop} {n:Nat} {ds:List Deferred} {cs:List Code} {l:List (Nat × Value)} {w:World}
theorem Pl.XZ {a:Act} (h:Q .ret a w):Exit.noGoto Q .ret a w:=h
end
section
variable {P:Program} {L:List Oper} {S:World→Prop} {K:List (Nat × Value)→World→Prop} {kk:Bool} {i m d:Nat} {o:Oper} {x y:Operand} {r:List (Bool × Nat × Nat)} {l:List (Nat × Value)} {w:World} {k:IntKind} {a b:Nat}
theorem alU {t:Array TypeId} {c:Nat} (hc:max a b=c) (hS:S w) (ho:Pl.nth L i=some o) (hop:o.op = .call { callee:=.builtin .max,args:=#[x,y],argTypes:=t }) (hd:o.dst=some d) (hg:Pl.gd L l o.guard=some true) (hx:Pl.dF l x=some (.int k ((a:Nat):Int))) (hy:Pl.dF l y=some (.int k ((b:Nat):Int)))
  (h:Pl.dO P L S K r ((d,.int k ((c:Nat):Int))::l) w):Pl.dO P L S K ((kk,i,m)::r) l w :=
 Pl.dB hS ho hd hg (fun ρ hρ X _=>by
  subst hc
  unfold execOp;rw [hop]
  refine Pl.fJ (Builtin.max_ _ _ (#[x,y].map ρ)) X ?_
  rw [show #[x,y].map ρ=#[.int k (a:Int),.int k (b:Int)] from by simp [hρ.dF hx,hρ.dF hy]]
  have e:((max a b:Nat):Int)=if (b:Int)>(a:Int) then (b:Int) else (a:Int):=by split<;>omega
  rw [e]
  exact run_max_int2 _ _ _ _ _ _ _) h
end
end Go.Proofs.YtfhcmggpojhegaaGreatDoor
/- How many bits a number has. -/
namespace Go.Proofs.YtfhcmggpojhegaaGreatDoor
open Go.RowKit 
set_option linter.all false
set_option maxRecDepth 100000
set_option maxHeartbeats 8000000
section
variable {P:Program} {L:List Oper} {S:World→Prop} {K:List (Nat × Value)→World→Prop} {kk:Bool} {i m d:Nat} {o:Oper} {x y:Operand} {r:List (Bool × Nat × Nat)} {l:List (Nat × Value)} {w:World}
theorem DR {t:TypeId} {n:Nat} {kd:IntKind} (ht:P.underlying t=some .string) (hn:n<256) (hS:S w) (ho:Pl.nth L i=some o) (hop:o.op = .index t x y) (hd:o.dst=some d) (hg:Pl.gd L l o.guard=some true) (hx:Pl.dF l x=some (.string yD)) (hy:Pl.dF l y=some (.int kd ((n:Nat):Int)))
  (h:Pl.dO P L S K r ((d,.int .u8 ((aU n:Nat):Int))::l) w):Pl.dO P L S K ((kk,i,m)::r) l w :=
 Pl.dB hS ho hd hg (fun ρ hρ X _=>by
  unfold execOp;rw [hop]
  refine Pl.fJ _ X ?_
  rw [hρ.dF hx,hρ.dF hy]
  exact lI t ht kd n hn X) h
end
theorem nQ {x k y:Nat} (h:x/2^k=y) (h0:2^k≤x):aU x=k+aU y:=by
 subst h
 exact kG x k (Nat.pos_iff_ne_zero.1 (Nat.div_pos h0 (Nat.two_pow_pos k)))
theorem Vw (w:World) (x:Nat) (hx:x<18446744073709551616) :
  Calls Tryz.prog 114 #[.int .u64 ((x:Nat):Int)] w fun e w'=>e = .returned (.int .i64 ((aU x:Nat):Int))∧Pl.Ex w w':=by
 refine Pl.aZ (n:=25) (vs:=[.int .u64 ((x:Nat):Int)]) Tryz.func114 rfl (by kernel_rfl) (by simp) ?_
 repeat refine Pl.ay ?_
 refine Pl.ak (by kernel_rfl) ?_
 refine Pl.aG trivial rfl ?_
 refine Pl.aj ?_
 repeat refine Pl.ay ?_
 refine Pl.ak (by kernel_rfl) ?_
 refine Pl.aG trivial rfl ?_
 by_cases c1:x≥4294967296
 · refine Pl.bV (v:=.bool true) (fun X=>Pl.oM (decide_eq_true (by omega)) X) trivial rfl rfl rfl rfl rfl rfl ?_
   refine Pl.aj ?_
   repeat refine Pl.ay ?_
   refine Pl.cK rfl ?_
   repeat refine Pl.ay ?_
   refine Pl.ak (by kernel_rfl) ?_
   obtain ⟨y2,hy2⟩:∃ z,x/2^32=z:=⟨_,rfl⟩
   have gy2:=nQ hy2 (by omega)
   have fy2:y2=x/4294967296:=by rw [← hy2]
   refine Pl.aG trivial rfl ?_
   refine Pl.bV (v:=.int .u64 ((y2:Nat):Int)) (fun X=>l9 hy2 (by omega) X) trivial rfl rfl rfl rfl rfl rfl ?_
   refine Pl.aG trivial rfl ?_
   refine Pl.aj ?_
   repeat refine Pl.ay ?_
   refine Pl.ak (by kernel_rfl) ?_
   refine Pl.aG trivial rfl ?_
   refine Pl.aj ?_
   repeat refine Pl.ay ?_
   refine Pl.ak (by kernel_rfl) ?_
   refine Pl.aG trivial rfl ?_
   by_cases c3:y2≥65536
   · refine Pl.bV (v:=.bool true) (fun X=>Pl.oM (decide_eq_true (by omega)) X) trivial rfl rfl rfl rfl rfl rfl ?_
     refine Pl.aj ?_
     repeat refine Pl.ay ?_
     refine Pl.cK rfl ?_
     repeat refine Pl.ay ?_
     refine Pl.ak (by kernel_rfl) ?_
     obtain ⟨y4,hy4⟩:∃ z,y2/2^16=z:=⟨_,rfl⟩
     have gy4:=nQ hy4 (by omega)
     have fy4:y4=y2/65536:=by rw [← hy4]
     refine Pl.aG trivial rfl ?_
     refine Pl.bV (v:=.int .u64 ((y4:Nat):Int)) (fun X=>l9 hy4 (by omega) X) trivial rfl rfl rfl rfl rfl rfl ?_
     refine Pl.aG trivial rfl ?_
     refine Pl.aj ?_
     repeat refine Pl.ay ?_
     refine Pl.ak (by kernel_rfl) ?_
     refine Pl.aG trivial rfl ?_
     refine Pl.bV (v:=.int .i64 48) (fun X=>eX (a:=32) (b:=16) (by omega) X) trivial rfl rfl rfl rfl rfl rfl ?_
     refine Pl.aG trivial rfl ?_
     refine Pl.aj ?_
     repeat refine Pl.ay ?_
     refine Pl.ak (by kernel_rfl) ?_
     refine Pl.aG trivial rfl ?_
     by_cases c5:y4≥256
     · refine Pl.bV (v:=.bool true) (fun X=>Pl.oM (decide_eq_true (by omega)) X) trivial rfl rfl rfl rfl rfl rfl ?_
       refine Pl.aj ?_
       repeat refine Pl.ay ?_
       refine Pl.cK rfl ?_
       repeat refine Pl.ay ?_
       refine Pl.ak (by kernel_rfl) ?_
       obtain ⟨y6,hy6⟩:∃ z,y4/2^8=z:=⟨_,rfl⟩
       have gy6:=nQ hy6 (by omega)
       have fy6:y6=y4/256:=by rw [← hy6]
       refine Pl.aG trivial rfl ?_
       refine Pl.bV (v:=.int .u64 ((y6:Nat):Int)) (fun X=>l9 hy6 (by omega) X) trivial rfl rfl rfl rfl rfl rfl ?_
       refine Pl.aG trivial rfl ?_
       refine Pl.aj ?_
       repeat refine Pl.ay ?_
       refine Pl.ak (by kernel_rfl) ?_
       refine Pl.aG trivial rfl ?_
       refine Pl.bV (v:=.int .i64 56) (fun X=>eX (a:=48) (b:=8) (by omega) X) trivial rfl rfl rfl rfl rfl rfl ?_
       refine Pl.aG trivial rfl ?_
       refine Pl.aj ?_
       repeat refine Pl.ay ?_
       refine Pl.ak (by kernel_rfl) ?_
       have hb8:aU y6≤8:=aT (by omega)
       refine Pl.aG trivial rfl ?_
       refine Pl.mP (c:=((y6:Nat):Int)) Tryz.underlying5 (by kernel_rfl) (Pl.sJ (a:=y6) rfl (Pl.w8 (by omega) (by omega))) trivial rfl rfl rfl rfl rfl ?_
       refine DR (n:=y6) Tryz.underlying9 (by omega) trivial rfl rfl rfl rfl (by rw [← iX];rfl) rfl ?_
       refine Pl.mP (c:=(((aU y6):Nat):Int)) Tryz.underlying3 (by kernel_rfl) (Pl.sJ (a:=(aU y6)) rfl (Pl.Ep (by omega) (by omega))) trivial rfl rfl rfl rfl rfl ?_
       refine Pl.bV (v:=.int .i64 (((56+(aU y6)):Nat):Int)) (fun X=>eX (a:=56) (b:=(aU y6)) (by omega) X) trivial rfl rfl rfl rfl rfl rfl ?_
       refine Pl.aG trivial rfl ?_
       refine Pl.aj ?_
       repeat refine Pl.ay ?_
       exact Pl.bI rfl rfl  (⟨by congr 3;omega,(Pl.Ex.refl _)⟩)
     · refine Pl.bV (v:=.bool false) (fun X=>Pl.oM (decide_eq_false (by omega)) X) trivial rfl rfl rfl rfl rfl rfl ?_
       refine Pl.aj ?_
       repeat refine Pl.ay ?_
       refine Pl.bn rfl ?_
       repeat refine Pl.ay ?_
       refine Pl.bM ?_
       repeat refine Pl.ay ?_
       refine Pl.ak (by kernel_rfl) ?_
       have hb8:aU y4≤8:=aT (by omega)
       refine Pl.aG trivial rfl ?_
       refine Pl.mP (c:=((y4:Nat):Int)) Tryz.underlying5 (by kernel_rfl) (Pl.sJ (a:=y4) rfl (Pl.w8 (by omega) (by omega))) trivial rfl rfl rfl rfl rfl ?_
       refine DR (n:=y4) Tryz.underlying9 (by omega) trivial rfl rfl rfl rfl (by rw [← iX];rfl) rfl ?_
       refine Pl.mP (c:=(((aU y4):Nat):Int)) Tryz.underlying3 (by kernel_rfl) (Pl.sJ (a:=(aU y4)) rfl (Pl.Ep (by omega) (by omega))) trivial rfl rfl rfl rfl rfl ?_
       refine Pl.bV (v:=.int .i64 (((48+(aU y4)):Nat):Int)) (fun X=>eX (a:=48) (b:=(aU y4)) (by omega) X) trivial rfl rfl rfl rfl rfl rfl ?_
       refine Pl.aG trivial rfl ?_
       refine Pl.aj ?_
       repeat refine Pl.ay ?_
       exact Pl.bI rfl rfl  (⟨by congr 3;omega,(Pl.Ex.refl _)⟩)
   · refine Pl.bV (v:=.bool false) (fun X=>Pl.oM (decide_eq_false (by omega)) X) trivial rfl rfl rfl rfl rfl rfl ?_
     refine Pl.aj ?_
     repeat refine Pl.ay ?_
     refine Pl.bn rfl ?_
     repeat refine Pl.ay ?_
     refine Pl.bM ?_
     repeat refine Pl.ay ?_
     refine Pl.ak (by kernel_rfl) ?_
     refine Pl.aG trivial rfl ?_
     by_cases c4:y2≥256
     · refine Pl.bV (v:=.bool true) (fun X=>Pl.oM (decide_eq_true (by omega)) X) trivial rfl rfl rfl rfl rfl rfl ?_
       refine Pl.aj ?_
       repeat refine Pl.ay ?_
       refine Pl.cK rfl ?_
       repeat refine Pl.ay ?_
       refine Pl.ak (by kernel_rfl) ?_
       obtain ⟨y5,hy5⟩:∃ z,y2/2^8=z:=⟨_,rfl⟩
       have gy5:=nQ hy5 (by omega)
       have fy5:y5=y2/256:=by rw [← hy5]
       refine Pl.aG trivial rfl ?_
       refine Pl.bV (v:=.int .u64 ((y5:Nat):Int)) (fun X=>l9 hy5 (by omega) X) trivial rfl rfl rfl rfl rfl rfl ?_
       refine Pl.aG trivial rfl ?_
       refine Pl.aj ?_
       repeat refine Pl.ay ?_
       refine Pl.ak (by kernel_rfl) ?_
       refine Pl.aG trivial rfl ?_
       refine Pl.bV (v:=.int .i64 40) (fun X=>eX (a:=32) (b:=8) (by omega) X) trivial rfl rfl rfl rfl rfl rfl ?_
       refine Pl.aG trivial rfl ?_
       refine Pl.aj ?_
       repeat refine Pl.ay ?_
       refine Pl.ak (by kernel_rfl) ?_
       have hb8:aU y5≤8:=aT (by omega)
       refine Pl.aG trivial rfl ?_
       refine Pl.mP (c:=((y5:Nat):Int)) Tryz.underlying5 (by kernel_rfl) (Pl.sJ (a:=y5) rfl (Pl.w8 (by omega) (by omega))) trivial rfl rfl rfl rfl rfl ?_
       refine DR (n:=y5) Tryz.underlying9 (by omega) trivial rfl rfl rfl rfl (by rw [← iX];rfl) rfl ?_
       refine Pl.mP (c:=(((aU y5):Nat):Int)) Tryz.underlying3 (by kernel_rfl) (Pl.sJ (a:=(aU y5)) rfl (Pl.Ep (by omega) (by omega))) trivial rfl rfl rfl rfl rfl ?_
       refine Pl.bV (v:=.int .i64 (((40+(aU y5)):Nat):Int)) (fun X=>eX (a:=40) (b:=(aU y5)) (by omega) X) trivial rfl rfl rfl rfl rfl rfl ?_
       refine Pl.aG trivial rfl ?_
       refine Pl.aj ?_
       repeat refine Pl.ay ?_
       exact Pl.bI rfl rfl  (⟨by congr 3;omega,(Pl.Ex.refl _)⟩)
     · refine Pl.bV (v:=.bool false) (fun X=>Pl.oM (decide_eq_false (by omega)) X) trivial rfl rfl rfl rfl rfl rfl ?_
       refine Pl.aj ?_
       repeat refine Pl.ay ?_
       refine Pl.bn rfl ?_
       repeat refine Pl.ay ?_
       refine Pl.bM ?_
       repeat refine Pl.ay ?_
       refine Pl.ak (by kernel_rfl) ?_
       have hb8:aU y2≤8:=aT (by omega)
       refine Pl.aG trivial rfl ?_
       refine Pl.mP (c:=((y2:Nat):Int)) Tryz.underlying5 (by kernel_rfl) (Pl.sJ (a:=y2) rfl (Pl.w8 (by omega) (by omega))) trivial rfl rfl rfl rfl rfl ?_
       refine DR (n:=y2) Tryz.underlying9 (by omega) trivial rfl rfl rfl rfl (by rw [← iX];rfl) rfl ?_
       refine Pl.mP (c:=(((aU y2):Nat):Int)) Tryz.underlying3 (by kernel_rfl) (Pl.sJ (a:=(aU y2)) rfl (Pl.Ep (by omega) (by omega))) trivial rfl rfl rfl rfl rfl ?_
       refine Pl.bV (v:=.int .i64 (((32+(aU y2)):Nat):Int)) (fun X=>eX (a:=32) (b:=(aU y2)) (by omega) X) trivial rfl rfl rfl rfl rfl rfl ?_
       refine Pl.aG trivial rfl ?_
       refine Pl.aj ?_
       repeat refine Pl.ay ?_
       exact Pl.bI rfl rfl  (⟨by congr 3;omega,(Pl.Ex.refl _)⟩)
 · refine Pl.bV (v:=.bool false) (fun X=>Pl.oM (decide_eq_false (by omega)) X) trivial rfl rfl rfl rfl rfl rfl ?_
   refine Pl.aj ?_
   repeat refine Pl.ay ?_
   refine Pl.bn rfl ?_
   repeat refine Pl.ay ?_
   refine Pl.bM ?_
   repeat refine Pl.ay ?_
   refine Pl.ak (by kernel_rfl) ?_
   refine Pl.aG trivial rfl ?_
   by_cases c2:x≥65536
   · refine Pl.bV (v:=.bool true) (fun X=>Pl.oM (decide_eq_true (by omega)) X) trivial rfl rfl rfl rfl rfl rfl ?_
     refine Pl.aj ?_
     repeat refine Pl.ay ?_
     refine Pl.cK rfl ?_
     repeat refine Pl.ay ?_
     refine Pl.ak (by kernel_rfl) ?_
     obtain ⟨y3,hy3⟩:∃ z,x/2^16=z:=⟨_,rfl⟩
     have gy3:=nQ hy3 (by omega)
     have fy3:y3=x/65536:=by rw [← hy3]
     refine Pl.aG trivial rfl ?_
     refine Pl.bV (v:=.int .u64 ((y3:Nat):Int)) (fun X=>l9 hy3 (by omega) X) trivial rfl rfl rfl rfl rfl rfl ?_
     refine Pl.aG trivial rfl ?_
     refine Pl.aj ?_
     repeat refine Pl.ay ?_
     refine Pl.ak (by kernel_rfl) ?_
     refine Pl.aG trivial rfl ?_
     refine Pl.bV (v:=.int .i64 16) (fun X=>eX (a:=0) (b:=16) (by omega) X) trivial rfl rfl rfl rfl rfl rfl ?_
     refine Pl.aG trivial rfl ?_
     refine Pl.aj ?_
     repeat refine Pl.ay ?_
     refine Pl.ak (by kernel_rfl) ?_
     refine Pl.aG trivial rfl ?_
     by_cases c4:y3≥256
     · refine Pl.bV (v:=.bool true) (fun X=>Pl.oM (decide_eq_true (by omega)) X) trivial rfl rfl rfl rfl rfl rfl ?_
       refine Pl.aj ?_
       repeat refine Pl.ay ?_
       refine Pl.cK rfl ?_
       repeat refine Pl.ay ?_
       refine Pl.ak (by kernel_rfl) ?_
       obtain ⟨y5,hy5⟩:∃ z,y3/2^8=z:=⟨_,rfl⟩
       have gy5:=nQ hy5 (by omega)
       have fy5:y5=y3/256:=by rw [← hy5]
       refine Pl.aG trivial rfl ?_
       refine Pl.bV (v:=.int .u64 ((y5:Nat):Int)) (fun X=>l9 hy5 (by omega) X) trivial rfl rfl rfl rfl rfl rfl ?_
       refine Pl.aG trivial rfl ?_
       refine Pl.aj ?_
       repeat refine Pl.ay ?_
       refine Pl.ak (by kernel_rfl) ?_
       refine Pl.aG trivial rfl ?_
       refine Pl.bV (v:=.int .i64 24) (fun X=>eX (a:=16) (b:=8) (by omega) X) trivial rfl rfl rfl rfl rfl rfl ?_
       refine Pl.aG trivial rfl ?_
       refine Pl.aj ?_
       repeat refine Pl.ay ?_
       refine Pl.ak (by kernel_rfl) ?_
       have hb8:aU y5≤8:=aT (by omega)
       refine Pl.aG trivial rfl ?_
       refine Pl.mP (c:=((y5:Nat):Int)) Tryz.underlying5 (by kernel_rfl) (Pl.sJ (a:=y5) rfl (Pl.w8 (by omega) (by omega))) trivial rfl rfl rfl rfl rfl ?_
       refine DR (n:=y5) Tryz.underlying9 (by omega) trivial rfl rfl rfl rfl (by rw [← iX];rfl) rfl ?_
       refine Pl.mP (c:=(((aU y5):Nat):Int)) Tryz.underlying3 (by kernel_rfl) (Pl.sJ (a:=(aU y5)) rfl (Pl.Ep (by omega) (by omega))) trivial rfl rfl rfl rfl rfl ?_
       refine Pl.bV (v:=.int .i64 (((24+(aU y5)):Nat):Int)) (fun X=>eX (a:=24) (b:=(aU y5)) (by omega) X) trivial rfl rfl rfl rfl rfl rfl ?_
       refine Pl.aG trivial rfl ?_
       refine Pl.aj ?_
       repeat refine Pl.ay ?_
       exact Pl.bI rfl rfl  (⟨by congr 3;omega,(Pl.Ex.refl _)⟩)
     · refine Pl.bV (v:=.bool false) (fun X=>Pl.oM (decide_eq_false (by omega)) X) trivial rfl rfl rfl rfl rfl rfl ?_
       refine Pl.aj ?_
       repeat refine Pl.ay ?_
       refine Pl.bn rfl ?_
       repeat refine Pl.ay ?_
       refine Pl.bM ?_
       repeat refine Pl.ay ?_
       refine Pl.ak (by kernel_rfl) ?_
       have hb8:aU y3≤8:=aT (by omega)
       refine Pl.aG trivial rfl ?_
       refine Pl.mP (c:=((y3:Nat):Int)) Tryz.underlying5 (by kernel_rfl) (Pl.sJ (a:=y3) rfl (Pl.w8 (by omega) (by omega))) trivial rfl rfl rfl rfl rfl ?_
       refine DR (n:=y3) Tryz.underlying9 (by omega) trivial rfl rfl rfl rfl (by rw [← iX];rfl) rfl ?_
       refine Pl.mP (c:=(((aU y3):Nat):Int)) Tryz.underlying3 (by kernel_rfl) (Pl.sJ (a:=(aU y3)) rfl (Pl.Ep (by omega) (by omega))) trivial rfl rfl rfl rfl rfl ?_
       refine Pl.bV (v:=.int .i64 (((16+(aU y3)):Nat):Int)) (fun X=>eX (a:=16) (b:=(aU y3)) (by omega) X) trivial rfl rfl rfl rfl rfl rfl ?_
       refine Pl.aG trivial rfl ?_
       refine Pl.aj ?_
       repeat refine Pl.ay ?_
       exact Pl.bI rfl rfl  (⟨by congr 3;omega,(Pl.Ex.refl _)⟩)
   · refine Pl.bV (v:=.bool false) (fun X=>Pl.oM (decide_eq_false (by omega)) X) trivial rfl rfl rfl rfl rfl rfl ?_
     refine Pl.aj ?_
     repeat refine Pl.ay ?_
     refine Pl.bn rfl ?_
     repeat refine Pl.ay ?_
     refine Pl.bM ?_
     repeat refine Pl.ay ?_
     refine Pl.ak (by kernel_rfl) ?_
     refine Pl.aG trivial rfl ?_
     by_cases c3:x≥256
     · refine Pl.bV (v:=.bool true) (fun X=>Pl.oM (decide_eq_true (by omega)) X) trivial rfl rfl rfl rfl rfl rfl ?_
       refine Pl.aj ?_
       repeat refine Pl.ay ?_
       refine Pl.cK rfl ?_
       repeat refine Pl.ay ?_
       refine Pl.ak (by kernel_rfl) ?_
       obtain ⟨y4,hy4⟩:∃ z,x/2^8=z:=⟨_,rfl⟩
       have gy4:=nQ hy4 (by omega)
       have fy4:y4=x/256:=by rw [← hy4]
       refine Pl.aG trivial rfl ?_
       refine Pl.bV (v:=.int .u64 ((y4:Nat):Int)) (fun X=>l9 hy4 (by omega) X) trivial rfl rfl rfl rfl rfl rfl ?_
       refine Pl.aG trivial rfl ?_
       refine Pl.aj ?_
       repeat refine Pl.ay ?_
       refine Pl.ak (by kernel_rfl) ?_
       refine Pl.aG trivial rfl ?_
       refine Pl.bV (v:=.int .i64 8) (fun X=>eX (a:=0) (b:=8) (by omega) X) trivial rfl rfl rfl rfl rfl rfl ?_
       refine Pl.aG trivial rfl ?_
       refine Pl.aj ?_
       repeat refine Pl.ay ?_
       refine Pl.ak (by kernel_rfl) ?_
       have hb8:aU y4≤8:=aT (by omega)
       refine Pl.aG trivial rfl ?_
       refine Pl.mP (c:=((y4:Nat):Int)) Tryz.underlying5 (by kernel_rfl) (Pl.sJ (a:=y4) rfl (Pl.w8 (by omega) (by omega))) trivial rfl rfl rfl rfl rfl ?_
       refine DR (n:=y4) Tryz.underlying9 (by omega) trivial rfl rfl rfl rfl (by rw [← iX];rfl) rfl ?_
       refine Pl.mP (c:=(((aU y4):Nat):Int)) Tryz.underlying3 (by kernel_rfl) (Pl.sJ (a:=(aU y4)) rfl (Pl.Ep (by omega) (by omega))) trivial rfl rfl rfl rfl rfl ?_
       refine Pl.bV (v:=.int .i64 (((8+(aU y4)):Nat):Int)) (fun X=>eX (a:=8) (b:=(aU y4)) (by omega) X) trivial rfl rfl rfl rfl rfl rfl ?_
       refine Pl.aG trivial rfl ?_
       refine Pl.aj ?_
       repeat refine Pl.ay ?_
       exact Pl.bI rfl rfl  (⟨by congr 3;omega,(Pl.Ex.refl _)⟩)
     · refine Pl.bV (v:=.bool false) (fun X=>Pl.oM (decide_eq_false (by omega)) X) trivial rfl rfl rfl rfl rfl rfl ?_
       refine Pl.aj ?_
       repeat refine Pl.ay ?_
       refine Pl.bn rfl ?_
       repeat refine Pl.ay ?_
       refine Pl.bM ?_
       repeat refine Pl.ay ?_
       refine Pl.ak (by kernel_rfl) ?_
       have hb8:aU x≤8:=aT (by omega)
       refine Pl.aG trivial rfl ?_
       refine Pl.mP (c:=((x:Nat):Int)) Tryz.underlying5 (by kernel_rfl) (Pl.sJ (a:=x) rfl (Pl.w8 (by omega) (by omega))) trivial rfl rfl rfl rfl rfl ?_
       refine DR (n:=x) Tryz.underlying9 (by omega) trivial rfl rfl rfl rfl (by rw [← iX];rfl) rfl ?_
       refine Pl.mP (c:=(((aU x):Nat):Int)) Tryz.underlying3 (by kernel_rfl) (Pl.sJ (a:=(aU x)) rfl (Pl.Ep (by omega) (by omega))) trivial rfl rfl rfl rfl rfl ?_
       refine Pl.bV (v:=.int .i64 (((0+(aU x)):Nat):Int)) (fun X=>eX (a:=0) (b:=(aU x)) (by omega) X) trivial rfl rfl rfl rfl rfl rfl ?_
       refine Pl.aG trivial rfl ?_
       refine Pl.aj ?_
       repeat refine Pl.ay ?_
       exact Pl.bI rfl rfl  (⟨by congr 3;omega,(Pl.Ex.refl _)⟩)
end Go.Proofs.YtfhcmggpojhegaaGreatDoor
/- Small roots. -/
namespace Go.Proofs.YtfhcmggpojhegaaGreatDoor
open Go.RowKit 
set_option linter.all false
set_option maxRecDepth 100000
set_option maxHeartbeats 8000000
theorem low_eq (a k:Nat):a-a/2^k*2^k=a%2^k:=by
 have:=Nat.div_add_mod a (2^k)
 rw [Nat.mul_comm] at this
 omega
theorem JE {n:Nat} (hn:n<4611686018427387904):aU n≤62:=aT (k:=62) hn
theorem Qc {n x:Nat} (hn:n<4611686018427387904) (hx:2^((aU n+1)/2)=x):x≤4294967296∧n<(x+1)*(x+1):=by
 have h1:=JE hn
 have h2:2^((aU n+1)/2)≤2^32:=Nat.pow_le_pow_right (by decide) (by omega)
 have h3:n<2^((aU n+1)/2)*2^((aU n+1)/2):=by
  rw [← Nat.pow_add]
  exact Nat.lt_of_lt_of_le (dW n) (Nat.pow_le_pow_right (by decide) (by omega))
 rw [hx] at h2 h3
 exact ⟨h2,Nat.lt_of_lt_of_le h3 (Nat.mul_le_mul (by omega) (by omega))⟩
theorem Vu {n x q:Nat} (hq:n/max x 1=q) (hlt:n<(x+1)*(x+1)) (hc:(x+q)/2≥x):Rt.kr n 2=x:=by
 rcases Nat.eq_zero_or_pos x with rfl | h0
 · have:n=0:=by omega
   subst this
   exact Rt.adk (by decide)
 · rw [Nat.max_eq_left h0] at hq
   refine Rt.Ty (by decide) ?_ (by rw [Nat.pow_two];exact hlt)
   have:=Rt.Vt (a:=n) (m:=1) h0 (by rw [Nat.mul_one,Nat.pow_one,hq];exact hc)
   exact this
theorem Vv {n x q:Nat} (hq:n/max x 1=q) (hlt:n<(x+1)*(x+1)) (hc:¬ (x+q)/2≥x):n<((x+q)/2+1)*((x+q)/2+1)∧0<x:=by
 have h0:0<x:=by omega
 rw [Nat.max_eq_left h0] at hq
 refine ⟨?_,h0⟩
 have h1:=Rt.EM n (show 2≠0 by decide)
 have:=Rt.adl (a:=n) (x:=x) (m:=1) h1.1 h0
 rw [Nat.mul_one,Nat.pow_one,hq] at this
 have h2:=h1.2
 rw [Nat.pow_two] at h2
 exact Nat.lt_of_lt_of_le h2 (Nat.mul_le_mul (by omega) (by omega))
theorem pW (w:World) (va vb:Value) (a b:Nat) (ha:Un w va a) (hb:Un w vb b) (la:Sn a 1000) (lb:Sn b 1000) (hle:b≤a) :
  Calls Tryz.prog 108 #[va,vb] w fun e w'=>∃ u,e = .returned u∧Un w' u (a-b)∧Pl.Ex w w':=by
 refine Pl.aZ (n:=14) (vs:=[va,vb]) Tryz.func108 rfl (by kernel_rfl) (by simp) ?_
 repeat refine Pl.ay ?_
 refine Pl.ak (by kernel_rfl) ?_
 refine Pl.aG trivial rfl ?_
 refine Pl.aj ?_
 repeat refine Pl.ay ?_
 refine Pl.ak (by kernel_rfl) ?_
 refine Pl.aG trivial rfl ?_
 refine Pl.az rfl rfl rfl rfl rfl (fun u X=>Pl.enters Tryz.func127 (by kernel_rfl) rfl u X) ?_
 refine Calls.mono (vF _ _ _ a b ha hb (Sn.le la (by decide)) true (decide_eq_true hle) _ rfl) ?_
 rintro e w1 ⟨v1,rfl,hv1,hE1⟩
 have X0:=Pl.Ex.size hE1
 refine ⟨_,rfl,trivial,?_⟩
 refine Pl.aG trivial rfl ?_
 refine Pl.aj ?_
 repeat refine Pl.ay ?_
 refine Pl.ak (by kernel_rfl) ?_
 refine Pl.aG trivial rfl ?_
 refine Pl.aj ?_
 repeat refine Pl.ay ?_
 exact Pl.bI rfl rfl  (⟨_,rfl,hv1,hE1⟩)
theorem uj (w:World) (va:Value) (a k:Nat) (ha:Un w va a) (la:Sn a 300) (hk:k≤1000000000) :
  Calls Tryz.prog 107 #[va,.int .i64 ((k:Nat):Int)] w fun e w'=>∃ u,e = .returned u∧Un w' u (a%2^k)∧Pl.Ex w w':=by
 refine Pl.aZ (n:=12) (vs:=[va,.int .i64 ((k:Nat):Int)]) Tryz.func107 rfl (by kernel_rfl) (by simp) ?_
 repeat refine Pl.ay ?_
 refine Pl.ak (by kernel_rfl) ?_
 refine Pl.aG trivial rfl ?_
 refine Pl.aj ?_
 repeat refine Pl.ay ?_
 refine Pl.ak (by kernel_rfl) ?_
 refine Pl.aG trivial rfl ?_
 refine Pl.az rfl rfl rfl rfl rfl (fun u X=>Pl.enters Tryz.func64 (by kernel_rfl) rfl u X) ?_
 refine Calls.mono (XW _ _ a k ha (by omega) (Sn.le la (by decide))) ?_
 rintro e w1 ⟨v1,rfl,hv1,hE1⟩
 have X0:=Pl.Ex.size hE1
 refine ⟨_,rfl,trivial,?_⟩
 refine Pl.aG trivial rfl ?_
 refine Pl.az rfl rfl rfl rfl rfl (fun u X=>Pl.enters Tryz.func68 (by kernel_rfl) rfl u X) ?_
 refine Calls.mono (FD _ _ (a/2^k) k hv1 (by omega) (Sn.le (Sn.down la (Nat.div_le_self _ _)) (by decide))) ?_
 rintro e w2 ⟨v2,rfl,hv2,hE2⟩
 have WY:=Pl.Ex.size hE2
 refine ⟨_,rfl,trivial,?_⟩
 refine Pl.az rfl rfl rfl rfl rfl (fun u X=>Pl.enters Tryz.func108 (by kernel_rfl) rfl u X) ?_
 refine Calls.mono (pW _ _ _ a ((a/2^k)*2^k) (Un.below ha (Pl.Ex.trans hE1 hE2)) hv2 (Sn.le la (by decide)) (Sn.le (la.down (Nat.div_mul_le_self _ _)) (by decide)) (Nat.div_mul_le_self _ _)) ?_
 rintro e w3 ⟨v3,rfl,hv3,bJ⟩
 have TD:=Pl.Ex.size bJ
 refine ⟨_,rfl,trivial,?_⟩
 refine Pl.aG trivial rfl ?_
 refine Pl.aj ?_
 repeat refine Pl.ay ?_
 exact Pl.bI rfl rfl  (⟨_,rfl,Un.as hv3 (low_eq a k),(Pl.Ex.trans hE1 (Pl.Ex.trans hE2 bJ))⟩)
theorem Qd (w:World) (n:Nat) (hn:n<4611686018427387904) :
  Calls Tryz.prog 106 #[.int .u64 ((n:Nat):Int)] w fun e w'=>e = .returned (.int .u64 ((Rt.kr n 2:Nat):Int))∧Pl.Ex w w':=by
 obtain ⟨x0,hx0⟩:∃ x,2^((aU n+1)/2)=x:=⟨_,rfl⟩
 obtain ⟨hb0,hb1⟩:=Qc hn hx0
 have hbl:=JE hn
 refine Pl.aZ (n:=22) (vs:=[.int .u64 ((n:Nat):Int)]) Tryz.func106 rfl (by kernel_rfl) (by simp) ?_
 repeat refine Pl.ay ?_
 refine Pl.ak (by kernel_rfl) ?_
 refine Pl.aG trivial rfl ?_
 refine Pl.aj ?_
 repeat refine Pl.ay ?_
 refine Pl.ak (by kernel_rfl) ?_
 refine Pl.aG trivial rfl ?_
 refine Pl.az rfl rfl rfl rfl rfl (fun u X=>Pl.enters Tryz.func114 (by kernel_rfl) rfl u X) ?_
 refine Calls.mono (Vw _ n (by omega)) ?_
 rintro e w1 ⟨rfl,hE1⟩
 have X0:=Pl.Ex.size hE1
 refine ⟨_,rfl,trivial,?_⟩
 refine Pl.bV (v:=.int .i64 (((aU n+1):Nat):Int)) (fun X=>eX (a:=aU n) (b:=1) (by omega) X) trivial rfl rfl rfl rfl rfl rfl ?_
 refine Pl.bV (v:=.int .i64 ((((aU n+1)/2):Nat):Int)) (fun X=>yK (a:=(aU n+1)) (b:=2) (by omega) (by omega) X) trivial rfl rfl rfl rfl rfl rfl ?_
 refine Pl.bV (v:=.int .u64 ((x0:Nat):Int)) (fun X=>adn hx0 (by omega) X) trivial rfl rfl rfl rfl rfl rfl ?_
 refine Pl.aG trivial rfl ?_
 refine Pl.aj ?_
 repeat refine Pl.ay ?_
 refine Pl.dM ?_
 repeat refine Pl.ay ?_
 refine Pl.eF [(0,.int .u64 ((n:Nat):Int)),(3,.int .u64 ((x0:Nat):Int))] (Pl.aa rfl (Pl.aa rfl Pl.aI)) ?_
 repeat refine Pl.ay ?_
 refine Pl.pV (fun kq l' w'=>∃ x,x=kq∧Pl.Ex w1 w'∧(x≤4294967296)∧(n<(x+1)*(x+1))∧l'=[(0,.int .u64 ((n:Nat):Int)),(3,.int .u64 ((x:Nat):Int))]) _ ⟨x0,rfl,Pl.Ex.refl _,hb0,hb1,rfl⟩ ?_
 rintro kq _ w2 ⟨x,hk2,hE2,hxb,hlt,rfl⟩
 have WY:=Pl.Ex.size hE2
 obtain ⟨q,hq⟩:∃ q,n/max x 1=q:=⟨_,rfl⟩
 have hqn:q≤n:=by rw [← hq];exact Nat.div_le_self _ _
 repeat refine Pl.ay ?_
 refine Pl.dM ?_
 repeat refine Pl.ay ?_
 refine Pl.ak (by kernel_rfl) ?_
 refine Pl.aG trivial rfl ?_
 refine alU (k:=.u64) (a:=x) (b:=1) (c:=(max x 1)) rfl trivial rfl rfl rfl rfl rfl rfl ?_
 refine Pl.bV (v:=.int .u64 ((q:Nat):Int)) (fun X=>Pl.Bn.as (FJ (a:=n) (b:=(max x 1)) (by omega) (by omega)) (by rw [hq]) X) trivial rfl rfl rfl rfl rfl rfl ?_
 refine Pl.bV (v:=.int .u64 (((x+q):Nat):Int)) (fun X=>P9 (a:=x) (b:=q) (by omega) X) trivial rfl rfl rfl rfl rfl rfl ?_
 refine Pl.bV (v:=.int .u64 ((((x+q)/2):Nat):Int)) (fun X=>FJ (a:=(x+q)) (b:=2) (by omega) (by omega) X) trivial rfl rfl rfl rfl rfl rfl ?_
 refine Pl.aG trivial rfl ?_
 refine Pl.aj ?_
 repeat refine Pl.ay ?_
 refine Pl.ak (by kernel_rfl) ?_
 refine Pl.aG trivial rfl ?_
 by_cases c1:((x+q)/2)≥x
 · refine Pl.bV (v:=.bool true) (fun X=>Pl.oM (decide_eq_true (by omega)) X) trivial rfl rfl rfl rfl rfl rfl ?_
   refine Pl.aj ?_
   repeat refine Pl.ay ?_
   refine Pl.cK rfl ?_
   repeat refine Pl.ay ?_
   refine Pl.ak (by kernel_rfl) ?_
   refine Pl.aG trivial rfl ?_
   refine Pl.aj ?_
   repeat refine Pl.ay ?_
   refine Pl.zY fun aQ hQ=>?_
   repeat first | refine Pl.Ni ?_ | refine Pl.uf ?_ | refine Pl.JF ?_ | refine Pl.XZ ?_
   exact Pl.TE hQ rfl rfl  (⟨by rw [Vu hq hlt c1],(Pl.Ex.trans hE1 hE2)⟩)
 · refine Pl.bV (v:=.bool false) (fun X=>Pl.oM (decide_eq_false (by omega)) X) trivial rfl rfl rfl rfl rfl rfl ?_
   refine Pl.aj ?_
   repeat refine Pl.ay ?_
   refine Pl.bn rfl ?_
   repeat refine Pl.ay ?_
   refine Pl.bM ?_
   repeat refine Pl.ay ?_
   refine Pl.ak (by kernel_rfl) ?_
   refine Pl.aG trivial rfl ?_
   refine Pl.aj ?_
   refine Pl.dG ?_
   repeat refine Pl.ay ?_
   refine Pl.jY (k':=((x+q)/2)) [(0,.int .u64 ((n:Nat):Int)),(3,.int .u64 ((((x+q)/2):Nat):Int))] (Pl.aa rfl (Pl.aa rfl Pl.aI)) (by omega) ⟨((x+q)/2),rfl,hE2,(by omega),(Vv hq hlt c1).1,rfl⟩
end Go.Proofs.YtfhcmggpojhegaaGreatDoor
