/- TopDigitSum, and what it leans on beyond the base. -/
import Derived.Test.YtfhcmggpojhegaaGreatDoorBab
import Derived.Test.YtfhcmggpojhegaaGreatDoorBaa
import Derived.Test.YtfhcmggpojhegaaGreatDoorBac
import Derived.Test.YtfhcmggpojhegaaGreatDoorBad
import Derived.Test.YtfhcmggpojhegaaGreatDoorBae
import Derived.Test.YtfhcmggpojhegaaGreatDoorBah
import Derived.Test.YtfhcmggpojhegaaGreatDoorBaf
import Derived.Test.YtfhcmggpojhegaaGreatDoorBak
import Derived.Test.YtfhcmggpojhegaaGreatDoorBaj
import Derived.Test.YtfhcmggpojhegaaGreatDoorBaq
import Derived.Test.YtfhcmggpojhegaaGreatDoorBat
import Derived.Test.YtfhcmggpojhegaaGreatDoorBar
import Derived.Test.YtfhcmggpojhegaaGreatDoorBas
import Derived.Test.YtfhcmggpojhegaaGreatDoorBbb
import Derived.Test.YtfhcmggpojhegaaGreatDoorBbc
import Derived.Test.YtfhcmggpojhegaaGreatDoorBbf
import Derived.Test.YtfhcmggpojhegaaGreatDoorBan
import Derived.Test.YtfhcmggpojhegaaGreatDoorBbe
import Derived.Test.YtfhcmggpojhegaaGreatDoorBbg
import Derived.Test.YtfhcmggpojhegaaGreatDoorBau
import Derived.Deep.MidRow
import Derived.Deep.WholeRow
import Derived.Laws.CopyOwn
import Derived.WalkKit
import Derived.Laws.EntriesVeiled
import Derived.Deep.AppendSrc
import Derived.Lib.AppendZeros
import Derived.Laws.IdiomStrings
import Derived.Laws.StructEq
import Derived.Below
import Derived.Laws.OwnMore
import Derived.Laws.AppendOwn
import Derived.Laws.BitsAllLaws
import Derived.Laws.Bits64
import Derived.Deep.AppendLies
import Derived.Deep.Draws
import Derived.Lib.Hide
import Derived.OwnWalk
import Derived.ProofKit
import Derived.OpenShut
import Derived.JoinedCond
import Derived.RegionTactic
import Derived.LoopTactic
import Derived.BigQuiet
import Derived.Deep.QuietTactic
import Derived.Outline
import Derived.Deep.RegionHeld3
import Derived.SevenTiedAt
import Derived.LaidMore
import Derived.Stop.Joined
import Derived.JoinedOf
import Derived.JoinedAt
import Derived.Lib.SmallJoins
import Derived.Deep.Cut
import Derived.Deep.CutRange
import Derived.Shelf.Bits.Mul64
import Derived.BigRegion
import Derived.Laws.IdiomArrays
import Derived.WideKeyPair
import Derived.WideKeyArr2
import Derived.Scope
import Derived.Lay
import Derived.LaidOnce

namespace Go.Proofs.YtfhcmggpojhegaaGreatDoor.Pl
open Go
set_option linter.all false
set_option maxRecDepth 100000
set_option maxHeartbeats 8000000
/-! Steps for any program: numbers, slices, memory. -/
theorem w32 {z:Int} (h1:0≤z) (h2:z<4294967296):IntKind.u32.wrap z=z:=by
 simp only [IntKind.wrap,IntKind.signed,IntKind.bits];simp;omega
section
variable {P:Program} {T:TypeId} {x y:Operand} {k k':IntKind} {a b c:Int} {v:Bool}
theorem af9 (h0:b≠0) (h:a.tmod b=c) (X:World):Bn P .rem T x y (.int k a) (.int k b) X = .ok (.int k c) X:=by
 subst h;simp [Bn,eqGuard,binOp,Op.intDiv,h0]
end
section
variable {P:Program} {T:TypeId} {x y:Operand} {a b c:Nat}
end
/-! Operations whose value follows from what is known alone. -/
section
variable {P:Program} {L:List Oper} {S:World→Prop} {K:List (Nat × Value)→World→Prop} {k:Bool} {i m d:Nat} {o:Oper} {r:List (Bool × Nat × Nat)} {l:List (Nat × Value)} {w w':World} {v:Value}
theorem aor {x:Operand} {t:TypeId} {s:ByteArray} (hu:P.underlying t=some .string) (hS:S w) (ho:nth L i=some o) (hop:o.op = .call { callee:=.builtin .len,args:=#[x],argTypes:=#[t] }) (hd:o.dst=some d) (hg:gd L l o.guard=some true) (hx:dF l x=some (.string s))
  (h:dO P L S K r ((d,.int .i64 ((s.size:Nat):Int))::l) w):dO P L S K ((k,i,m)::r) l w :=
 dB hS ho hd hg (fun ρ hρ X _=>by
  obtain ⟨d',op',t',ps',awl,gu'⟩:=o
  cases hop
  have e:=hρ.dF hx
  simp [go_sem,e,Builtin.len_,run_underlying hu]) h
theorem sU {x y:Operand} {t e:TypeId} {ad:Addr} {n j s:Nat} {z:Int} {kd:IntKind} (hu:P.underlying t=some (.array n e)) (hs:(P.info? e).map (·.size)=some s) (hz:z=(j:Int)) (hj:j<n) (hS:S w) (ho:nth L i=some o) (hop:o.op = .indexAddr t x y) (hd:o.dst=some d) (hg:gd L l o.guard=some true)
  (hx:dF l x=some (.pointer (some ad))) (hy:dF l y=some (.int kd z)) (h:dO P L S K r ((d,.pointer (some (ad.add (j*s))))::l) w):dO P L S K ((k,i,m)::r) l w :=
 dB hS ho hd hg (fun ρ hρ X _=>by
  subst hz
  unfold execOp;rw [hop]
  refine fJ _ X ?_
  rw [hρ.dF hx,hρ.dF hy]
  have h0:(0:Int)≤(j:Int)∧(j:Int)<(n:Int):=by omega
  obtain ⟨inf,hi,hz⟩:=Option.map_eq_some_iff.1 hs
  subst hz
  simp [Instr.indexAt,run_underlying hu,asIntOf,h0,hj,sizeOf,typeInfo,hi,Result.andThen,Instr.sureAddr]) h
end
end Go.Proofs.YtfhcmggpojhegaaGreatDoor.Pl
namespace Go.Proofs.YtfhcmggpojhegaaGreatDoor.Pl
open Go Go.RowKit
set_option linter.all false
set_option maxRecDepth 100000
set_option maxHeartbeats 8000000
/-! Memory: variables, slices that are read, rows that grow, what is kept. -/
section
variable {P:Program}
end
section
variable {P:Program} {ok:Value→Prop} {w w':World} {base:Nat} {e:TypeId} {size:Nat} {v:Value} {n:Nat} {xs:List Value}
end
section
variable {P:Program} {L:List Oper} {S:World→Prop} {K:List (Nat × Value)→World→Prop} {k:Bool} {i m d:Nat} {o:Oper} {x y:Operand} {r:List (Bool × Nat × Nat)} {l:List (Nat × Value)} {w w':World} {v:Value}
theorem AR {T:TypeId} {u:Value} {cs:List Value} (ho:nth L i=some o) (hp:o.op = .box T x) (hd:o.dst=some d) (hg:gd L l o.guard=some true) (hx:dF l x=some u) (hc:u.cells=cs.toArray) (hS:∀ Y,Ex w Y→S Y)
  (h:∀ N w',Ex w w'→N=w.heap.size→Cb w' N T cs→dO P L S K r ((d,.pointer (some ⟨N,0,none⟩))::l) w'):dO P L S K ((false,i,m)::r) l w:=by
 have e1:=Ex.alloc w (.cells cs.toArray T)
 refine mh (w':=w.alloc (.cells cs.toArray T)) (v:=.pointer (some ⟨w.heap.size,0,none⟩)) ho hd hg (fun ρ hρ=>?_) (hS _ e1) (h _ _ e1 rfl (Cb.new w T cs))
 unfold execOp;rw [hp]
 refine kJ _ ?_
 rw [hρ.dF hx]
 simp [Instr.box,Sem.run_bind,newVar,newRow,hc]
end
end Go.Proofs.YtfhcmggpojhegaaGreatDoor.Pl
namespace Go.Proofs.YtfhcmggpojhegaaGreatDoor.Pl
open Go Go.RowKit
set_option linter.all false
set_option maxRecDepth 100000
set_option maxHeartbeats 8000000
/-! Small laws for the walk's printer (sx.py). -/
theorem s64 {a b:Nat} {x y:Int} (hx:x=(a:Int)) (hy:y=(b:Int)) (hb:b≤a) (h:a≤9223372036854775807):IntKind.i64.wrap (x-y)=((a-b:Nat):Int):=by
 subst hx hy;rw [Ep (by omega) (by omega)];omega
theorem e_f {a b:Int} (h:a≠b):(a==b)=false:=beq_false_of_ne h
section
variable {P:Program} {T:TypeId} {x y:Operand} {a b c:Nat} {za zb:Int}
end
section
variable {P:Program} {T:TypeId} {x y:Operand}
end
section
variable {P:Program} {n:Nat} {cs:List Code} {l:List (Nat × Value)} {w:World} {fn:Func} {R:Ending→World→Prop} {t t2 t3:Tmp} {N N2 N3:Nat} {ty ty2 ty3:TypeId} {v v2 v3:Value}
end
end Go.Proofs.YtfhcmggpojhegaaGreatDoor.Pl
namespace Go.Proofs.YtfhcmggpojhegaaGreatDoor
open Go.RowKit
set_option linter.all false
set_option maxRecDepth 100000
set_option maxHeartbeats 8000000
theorem gY {P:Program} (w:World) (base:Nat) (t ty e:TypeId) (i:TypeInfo) (size:Nat) (ht:P.underlying t=some (.slice e)) (hi:P.info? e=some i)
  (v:Value) (n c:Nat) (xs:List Value) (hown:w.ownsRow base e size v n xs) :
  (Builtin.append_ #[t,t] ty #[v,.slice none 0 c]).run P w = .ok v w:=by
 rcases hown.2 with ⟨rfl,rfl⟩ | ⟨g,cap,cur,rfl,_,_,hnc,_⟩
 · simp [Builtin.append_,run_underlying ht,sizeOf,typeInfo,hi,Builtin.lenOf,Builtin.firstCells]
 · simp [Builtin.append_,run_underlying ht,sizeOf,typeInfo,hi,Builtin.lenOf,Builtin.firstCells,hnc,storeCells]
theorem jP (w:World) (base:Nat) (v:Value) (o:List Nat) (hown:Own w base v o) (x:Value) (ys:List Nat) (hx:U w x ys) (hlen:o.length+ys.length≤35184372088832) (hbase:base≤w.heap.size) :
  ∃ v' w',(Builtin.append_ #[22,22] 22 #[v,x]).run Tryz.prog w = .ok v' w'∧Own w' base v' (o++ys)∧w.grownBy w' v.ownBlock:=by
 obtain ⟨i0,hi,hz0,hz1,hz2⟩:=info_parts pR
 obtain ⟨A,c,rfl,⟨h1,h2⟩,hlt,hr⟩:=hx
 cases A with
 | none =>
  have h0:ys.length=0:=by
   rcases Nat.eq_zero_or_pos ys.length with h0 | h0
   · exact h0
   · obtain ⟨ad,h,_⟩:=hr h0;cases h
  obtain rfl:=List.eq_nil_of_length_eq_zero h0
  refine ⟨v,w,gY w base 22 22 27 i0 1 Tryz.underlying22 hi v _ c _ hown,by rw [List.append_nil];exact hown,World.grownBy.refl w _⟩
 | some ad =>
  have hcells:∀ j u,(mX ys)[j]?=some u→w.cell? (ad.add j)=some u:=fun j u hj=>by
   have hjl:j<ys.length:=by
    rcases Nat.lt_or_ge j ys.length with h | h
    · exact h
    · rw [List.getElem?_eq_none (by rw [eG];exact h)] at hj;cases hj
   obtain ⟨afR,e',_,hcell⟩:=hr (by omega)
   replace e':=Option.some.inj e'
   subst e'
   rw [hcell j hjl,← qX ys hjl,hj]
  obtain ⟨v',w',hrun,hown',hg,_⟩:=run_append_own (P:=Tryz.prog) w base 22 22 27 i0 (.int .u32 0) 1 4 Tryz.underlying22 hi hz0 hz1 hz2 rfl (by decide) v o.length (mX o) hown ad ys.length c (mX ys) (by rw [eG,Nat.mul_one]) hcells
   (by intro u hu;obtain ⟨z,_,rfl⟩:=List.mem_map.1 hu;rfl) (by unfold maxLen;omega) (by omega) hbase
  exact ⟨v',w',hrun,by unfold Own;rw [jM,List.length_append];exact hown',hg⟩
end Go.Proofs.YtfhcmggpojhegaaGreatDoor
namespace Go.Proofs.YtfhcmggpojhegaaGreatDoor
set_option linter.all false
set_option maxRecDepth 100000
set_option maxHeartbeats 8000000
theorem Dg (n:Nat):sm n (fun _=>0)=0:=by
 induction n with
 | zero=>rfl
 | succ n ih=>rw [iQ,ih];rfl
theorem aaS (h:Nat) (f:Nat→Int):sm (2*h) f=sm h (fun i=>f (2*i)+f (2*i+1)):=by
 induction h with
 | zero=>rfl
 | succ h ih=>rw [show 2*(h+1)=2*h+1+1 by omega,iQ,iQ,iQ,ih];omega
theorem Uj (m n:Nat) (f:Nat→Nat→Int):sm m (fun i=>sm n (fun j=>f i j))=sm n (fun j=>sm m (fun i=>f i j)):=by
 induction m with
 | zero=>simp only [Bu,Dg]
 | succ m ih=>simp only [iQ,ih,L8]
theorem aaT (n:Nat) (c:Int):sm n (fun _=>c)=n*c:=by
 induction n with
 | zero=>simp [Bu]
 | succ n ih=>rw [iQ,ih];push_cast;rw [Int.add_mul];omega
theorem aen (n:Nat) (f:Nat→Int) (k:Nat) (hk:k<n) (h:∀ i,i<n→i≠k→f i=0):sm n f=f k:=by
 induction n with
 | zero=>omega
 | succ n ih =>
  rw [iQ]
  by_cases e:k=n
  · subst e
    have:sm k f=0:=by rw [gp (g:=fun _=>0) (fun i hi=>h i (by omega) (by omega)),Dg]
    omega
  · rw [ih (by omega) (fun i hi=>h i (by omega)),h n (by omega) (by omega)];omega
theorem dx.nat_eq {p a b:Nat} (h:dx (p:Int) (a:Int) (b:Int)):a%p=b%p:=by
 have:=h.emod
 omega
theorem ajb (s:Nat) (g:Nat→Int):sm (2^s) (fun t=>g (rev s t))=sm (2^s) g:=by
 induction s generalizing g with
 | zero=>simp [Rn,rev]
 | succ s ih =>
  rw [Nat.pow_succ',Ia,aaS,← ih fun q=>g (2*q)+g (2*q+1)]
  exact gp fun t ht=>by rw [EZ _ _ 0 ht,Bw _ _ ht]
end Go.Proofs.YtfhcmggpojhegaaGreatDoor
namespace Go.Proofs.YtfhcmggpojhegaaGreatDoor
open Go.RowKit
set_option linter.all false
set_option maxRecDepth 100000
set_option maxHeartbeats 8000000
theorem aaU (Z n p:Nat) (hn:(n*p+1)%4294967296=0):(Z+Z%4294967296*n%4294967296*p)%4294967296=0:=by
 have h1:(Z+Z%4294967296*n%4294967296*p)%4294967296=(Z*(n*p+1))%4294967296:=by
  rw [Nat.mul_add,Nat.mul_one,Nat.add_mod,Nat.mul_mod (Z%4294967296*n%4294967296),Nat.mod_mod,← Nat.mul_mod,Nat.mul_assoc,Nat.mul_mod (Z%4294967296),Nat.mod_mod,← Nat.mul_mod,← Nat.add_mod,Nat.add_comm]
 rw [h1,Nat.mul_mod,hn,Nat.mul_zero,Nat.zero_mod]
def mt (f:Fd) (Z:Nat):Nat:=(Z+Z%4294967296*f.neg%4294967296*f.p)/4294967296
theorem af' (f:Fd) (hf:Good f) (Z:Nat):mt f Z*4294967296=Z+Z%4294967296*f.neg%4294967296*f.p:=by
 have:=aaU Z f.neg f.p hf.neg
 unfold mt;omega
theorem aaV (f:Fd) (hf:Good f) (Z:Nat):mt f Z%f.p=Z*f.ri%f.p:=by
 have h1:mt f Z*4294967296%f.p=Z%f.p:=by rw [af' f hf,Nat.add_mul_mod_self_right]
 have h2:mt f Z*4294967296*f.ri%f.p=Z*f.ri%f.p:=by rw [Nat.mul_mod,h1,← Nat.mul_mod]
 rw [← h2,Nat.mul_assoc,Nat.mul_comm 4294967296,Nat.mul_mod,hf.ri,Nat.mul_one,Nat.mod_mod]
theorem aga (f:Fd) (hf:Good f) (Z:Nat) (hZ:Z<4294967296*f.p):mt f Z<2*f.p:=by
 have h1:=af' f hf Z
 have h2:Z%4294967296*f.neg%4294967296*f.p≤4294967295*f.p:=Nat.mul_le_mul_right _ (by omega)
 have:=hf.p0
 omega
theorem aaW (f:Fd) (hf:Good f) (x y:Nat) (h:mt f (x*y)<f.p):mm f x y=mt f (x*y):=by
 have:=aaV f hf (x*y)
 rw [Nat.mod_eq_of_lt h] at this
 exact this.symm
theorem aaX (f:Fd) (hf:Good f) (x y:Nat) (hZ:x*y<4294967296*f.p) (h:f.p≤mt f (x*y)):mm f x y=mt f (x*y)-f.p:=by
 have h1:=aaV f hf (x*y)
 have h2:=aga f hf _ hZ
 rw [Nat.mod_eq_sub_mod h,Nat.mod_eq_of_lt (by omega)] at h1
 exact h1.symm
theorem jG (w:World) (f:Fd) (hf:Good f) (x y:Nat) (hx:x<4294967296) (hy:y<4294967296) (hxy:x*y<4294967296*f.p) :
  Calls Tryz.prog 160 #[f.V,.int .u32 (x:Nat),.int .u32 (y:Nat)] w fun e w'=>e = .returned (.int .u32 (mm f x y:Nat))∧Ext w w':=by
 have p0:=hf.p0
 have p1:=hf.p1
 have n1:=hf.n1
 obtain ⟨Z,hZ⟩:∃ Z,x*y=Z:=⟨_,rfl⟩
 rw [hZ] at hxy
 have hz:(x:Int)*(y:Int)=(Z:Int):=by rw [← hZ,Int.natCast_mul]
 have H1:=Lib.hid (aaW f hf x y)
 have H2:=Lib.hid (fun h=>aaX f hf x y (by rw [hZ];exact hxy) h)
 rw [hZ] at H1 H2
 have hT:=aga f hf Z hxy
 have hv:IntKind.u64.wrap ((Z:Int)+IntKind.u64.wrap ((Z:Int)%4294967296*(f.neg:Int)%4294967296*(f.p:Int)))/4294967296=((mt f Z:Nat):Int):=by
  have hm:Z%4294967296*f.neg%4294967296<4294967296:=Nat.mod_lt _ (by decide)
  have hq:Z%4294967296*f.neg%4294967296*f.p≤4294967295*f.p:=Nat.mul_le_mul_right _ (by omega)
  have e1:(Z:Int)%4294967296*(f.neg:Int)%4294967296*(f.p:Int)=((Z%4294967296*f.neg%4294967296*f.p:Nat):Int):=by
   rw [Int.natCast_mul,Int.natCast_emod,Int.natCast_mul,Int.natCast_emod];rfl
  rw [e1]
  unfold mt
  generalize Z%4294967296*f.neg%4294967296*f.p=Q at *
  rw [IntKind.wrap_u64,IntKind.wrap_u64]
  omega
 generalize mt f Z=T at *
 have hZb:Z<4611686018427387904:=by omega
 clear hZ hxy
 rcases Nat.lt_or_ge T f.p with h | h
 · have HF:=Lib.hid (H1.out h)
   clear H1 H2
   unfold Fd.V
   go_enter Tryz.func160,Tryz.ntmps160
   go_wp2
   go_ret
   exact ⟨jN (by rw [HF.out]),(Ext.refl w).alloc _⟩
 · have HF:=Lib.hid (H2.out h)
   clear H1 H2
   unfold Fd.V
   go_enter Tryz.func160,Tryz.ntmps160
   go_wp2
   go_ret
   exact ⟨jN (by rw [HF.out];omega),(Ext.refl w).alloc _⟩
theorem Kh (w:World) (f:Fd) (hf:Good f) (x y:Nat) (hx:x<f.p) (hy:y<f.p) :
  Calls Tryz.prog 189 #[f.V,.int .u32 (x:Nat),.int .u32 (y:Nat)] w fun e w'=>e = .returned (.int .u32 ((x+y)%f.p:Nat))∧Ext w w':=by
 have p0:=hf.p0
 have p1:=hf.p1
 rcases Nat.lt_or_ge (x+y) f.p with h | h
 · have HF:=Lib.hid (Nat.mod_eq_of_lt h)
   unfold Fd.V
   go_enter Tryz.func189,Tryz.ntmps189
   go_wp2
   go_ret
   exact ⟨jN (by rw [HF.out];omega),(Ext.refl w).alloc _⟩
 · have HF:Hid ((x+y)%f.p=x+y-f.p):=by rw [Hid,Nat.mod_eq_sub_mod h,Nat.mod_eq_of_lt (by omega)]
   unfold Fd.V
   go_enter Tryz.func189,Tryz.ntmps189
   go_wp2
   go_ret
   exact ⟨jN (by rw [HF.out];omega),(Ext.refl w).alloc _⟩
theorem Dh (w:World) (f:Fd) (hf:Good f) (x y:Nat) (hx:x<f.p) (hy:y<f.p) :
  Calls Tryz.prog 165 #[f.V,.int .u32 (x:Nat),.int .u32 (y:Nat)] w fun e w'=>e = .returned (.int .u32 ((x+f.p-y)%f.p:Nat))∧Ext w w':=by
 have p0:=hf.p0
 have p1:=hf.p1
 rcases Nat.lt_or_ge x y with h | h
 · have HF:Hid ((x+f.p-y)%f.p=x+f.p-y):=Nat.mod_eq_of_lt (by omega)
   have hw:IntKind.u32.wrap (((x:Int)-(y:Int))%4294967296+(f.p:Int))=((x+f.p-y:Nat):Int):=by rw [IntKind.wrap_u32];omega
   unfold Fd.V
   go_enter Tryz.func165,Tryz.ntmps165
   go_wp2
   go_ret
   exact ⟨jN (by rw [HF.out]),(Ext.refl w).alloc _⟩
 · have HF:Hid ((x+f.p-y)%f.p=x-y):=by rw [Hid,Nat.mod_eq_sub_mod (by omega),Nat.mod_eq_of_lt (by omega)];omega
   unfold Fd.V
   go_enter Tryz.func165,Tryz.ntmps165
   go_wp2
   go_ret
   exact ⟨jN (by rw [HF.out];omega),(Ext.refl w).alloc _⟩
theorem Ic (f:Fd) (hf:Good f) (x y:Nat):mm f (fG f x) (fG f y)=fG f (x*y):=by
 rw [EG f hf];unfold fG;rw [Nat.mul_comm,zP,Nat.mul_comm,← Nat.mul_assoc]
theorem Ws (f:Fd) (hf:Good f) (x:Nat):mm f x f.square=fG f x:=by
 rw [SF,hf.sq]
 rw [show 4294967296*4294967296%f.p=fG f 4294967296 from rfl,EG f hf]
 unfold fG;rw [Nat.mul_comm]
theorem ajc (f:Fd) (hf:Good f) (x:Nat):mm f (fG f x) 1=x%f.p:=by rw [EG f hf,Nat.mul_one]
theorem nH {x y p:Nat} (hx:x<4294967296) (hy:y<p):x*y<4294967296*p:=by
 have h1:x*y≤x*p:=Nat.mul_le_mul_left _ (by omega)
 have h2:x*p<4294967296*p:=Nat.mul_lt_mul_of_pos_right hx (by omega)
 omega
theorem wM (w:World) (f:Fd) (hf:Good f) (x:Nat) (hx:x<4294967296) :
  Calls Tryz.prog 158 #[f.V,.int .u32 (x:Nat)] w fun e w'=>e = .returned (.int .u32 (fG f x:Nat))∧Ext w w':=by
 have p1:=hf.p1
 have sb:=hf.sb
 have HM:=Lib.hid (Ws f hf x)
 have hc:=jG (w.alloc (.cells #[.int .u32 (f.p:Int),.int .u32 (f.root:Int),.int .u32 (f.neg:Int),.int .u32 (f.square:Int),.int .u32 (f.ahead:Int)] 151)) f hf x f.square hx (by omega) (nH hx sb)
 have HC:=Lib.hid hc
 clear hc
 unfold Fd.V
 go_enter Tryz.func158,Tryz.ntmps158
 go_wp2_with (fail)
 refine HC.out.mono ?_
 rintro e w1 ⟨rfl,hB⟩
 rw [HM.out]
 go_wp2
 go_ret
 exact ⟨rfl,((Ext.refl w).alloc _).below hB⟩
theorem Wu (w:World) (f:Fd) (hf:Good f) (x:Nat) (hx:x<4294967296) :
  Calls Tryz.prog 163 #[f.V,.int .u32 (x:Nat)] w fun e w'=>e = .returned (.int .u32 (mm f x 1:Nat))∧Ext w w':=by
 have p0:=hf.p0
 have p1:=hf.p1
 have hc:=jG (w.alloc (.cells #[.int .u32 (f.p:Int),.int .u32 (f.root:Int),.int .u32 (f.neg:Int),.int .u32 (f.square:Int),.int .u32 (f.ahead:Int)] 151)) f hf x 1 hx (by omega) (nH hx p0)
 have HC:=Lib.hid hc
 clear hc
 unfold Fd.V
 go_enter Tryz.func163,Tryz.ntmps163
 go_wp2_with (fail)
 refine HC.out.mono ?_
 rintro e w1 ⟨rfl,hB⟩
 go_wp2
 go_ret
 exact ⟨rfl,((Ext.refl w).alloc _).below hB⟩
end Go.Proofs.YtfhcmggpojhegaaGreatDoor
namespace Go.Proofs.YtfhcmggpojhegaaGreatDoor
open Go.RowKit
set_option linter.all false
set_option maxRecDepth 100000
set_option maxHeartbeats 8000000
theorem aaY {w x y:World} {B:Nat} {f:Fd} (h:(B<x.heap.size∧x.cell? ⟨B,0,none⟩=some (.int .u32 (f.p:Int))∧x.cell? ⟨B,1,none⟩=some (.int .u32 (f.root:Int))∧x.cell? ⟨B,2,none⟩=some (.int .u32 (f.neg:Int))∧x.cell? ⟨B,3,none⟩=some (.int .u32 (f.square:Int))∧x.cell? ⟨B,4,none⟩=some (.int .u32 (f.ahead:Int)))∧Ext w x) (hB:Ext x y) :
  (B<y.heap.size∧y.cell? ⟨B,0,none⟩=some (.int .u32 (f.p:Int))∧y.cell? ⟨B,1,none⟩=some (.int .u32 (f.root:Int))∧y.cell? ⟨B,2,none⟩=some (.int .u32 (f.neg:Int))∧y.cell? ⟨B,3,none⟩=some (.int .u32 (f.square:Int))∧y.cell? ⟨B,4,none⟩=some (.int .u32 (f.ahead:Int)))∧Ext w y :=
 ⟨Bx.ext (f:=f) h.1 hB,h.2.below hB⟩
theorem aaZ (f:Fd) (hf:Good f) (X n i:Nat) :
  (if n/2^i%2=1 then mm f (mm f (fG f (X^(n/2^(i+1)))) (fG f (X^(n/2^(i+1))))) (fG f X) else mm f (fG f (X^(n/2^(i+1)))) (fG f (X^(n/2^(i+1)))))=fG f (X^(n/2^i)):=by
 have e:n/2^i=2*(n/2^(i+1))+n/2^i%2:=by
  rw [Nat.pow_succ,← Nat.div_div_eq_div_mul];omega
 have h2:n/2^i%2=0∨n/2^i%2=1:=by omega
 rw [Ic f hf,Ic f hf]
 rcases h2 with h | h
 · rw [if_neg (by omega),← Nat.pow_add];congr 2;omega
 · rw [if_pos h,← Nat.pow_add,← Nat.pow_succ];congr 2;omega
theorem Ki (w:World) (f:Fd) (hf:Good f) (X n:Nat) (hn:n<4294967296) :
  Calls Tryz.prog 188 #[f.V,.int .u32 (fG f X:Nat),.int .u32 (n:Nat)] w fun e w'=>e = .returned (.int .u32 (fG f (X^n):Nat))∧Ext w w':=by
 have p0:=hf.p0
 have p1:=hf.p1
 have hbl:=aT (n:=n) (k:=32) (by simpa using hn)
 have hm1:=pg f hf X
 have HW:=Lib.hid (dW n)
 have HX:=Bx.new w f
 unfold Fd.V
 go_enter Tryz.func188,Tryz.ntmps188
 go_wp2_with (fail)
 refine (wM _ f hf 1 (by decide)).mono ?_
 rintro e w1 ⟨rfl,hB1⟩
 have hE1:=((Ext.refl w).alloc _).below hB1
 replace HX:=HX.ext hB1
 clear hB1
 go_wp2_with (fail)
 refine (vK _ n hn).mono ?_
 rintro e w2 ⟨rfl,rfl⟩
 go_wp2_with (fail)
 go_loopw [7,8] (fun y i wr=>∃ m:Nat,m≤32∧i = .int .i64 ((m:Int)-1)∧y = .int .u32 (fG f (X^(n/2^m)):Nat)∧Ext w wr∧Bx wr w.heap.size f) (fun _ i _=>(intOf i+1).toNat)
 case atStart=>exact ⟨aU n,hbl,rfl,by rw [Nat.div_eq_of_lt HW.out,Nat.pow_zero],hE1,HX⟩
 case round =>
  clear HX hE1
  obtain ⟨m,hm,rfl,rfl,hE,HB⟩:=hrel
  rcases m with _ | k
  · rw [Nat.pow_zero,Nat.div_one]
    go_wp2
    go_ret
    exact ⟨rfl,hE⟩
  · obtain ⟨b0,b1,b2,b3,b4,b5⟩:=id HB
    have hs:=aaZ f hf X n k
    have hm2:=pg f hf (X^(n/2^(k+1)))
    have hq:=uZ f hf (fG f (X^(n/2^(k+1)))) (fG f (X^(n/2^(k+1))))
    have hik:(((k+1:Nat):Int)-1)=(k:Int):=by omega
    rw [hik]
    clear hik
    generalize fG f (X^(n/2^(k+1)))=Y at *
    go_wp2_with (fail)
    refine (jG _ f hf Y Y (by omega) (by omega) (nH (by omega) hm2)).mono ?_
    rintro e w2 ⟨rfl,hB2⟩
    obtain ⟨c0,c1,c2,c3,c4,c5⟩:=HB.ext hB2
    generalize mm f Y Y=Z at *
    have hbit:bits .and .u32 ((n:Int)/2^k) 1=((n/2^k%2:Nat):Int):=by
     rw [show ((n:Int)/2^k)=((n/2^k:Nat):Int) by rw [Int.natCast_ediv,Int.natCast_pow];rfl]
     rw [show (1:Int)=((1:Nat):Int) from rfl,u32_and_nat _ _ (Nat.lt_of_le_of_lt (Nat.div_le_self _ _) hn) (by decide),nat_mask1]
    by_cases h:n/2^k%2=1
    · rw [if_pos h] at hs
      rw [h] at hbit
      have HS:=Lib.hid hs
      have ht:(bits .and .u32 ((n:Int)/2^k) 1==1)=true:=by rw [hbit];rfl
      clear h hbit hs
      go_wp2_with (fail)
      refine (jG _ f hf Z (fG f X) (by omega) (by omega) (nH (by omega) hm1)).mono ?_
      rintro e w3 ⟨rfl,hB3⟩
      rw [HS.out]
      have bJ:=(hE.below hB2).below hB3
      have HB3:=(HB.ext hB2).ext hB3
      clear c0 c1 c2 c3 c4 c5 b0 b1 b2 b3 b4 b5
      go_wp2
      go_roundw
      case rel=>exact ⟨k,by omega,rfl,rfl,bJ,HB3⟩
      case measure=>simp [intOf]
    · rw [if_neg h] at hs
      have HS:=Lib.hid hs
      have ht:(bits .and .u32 ((n:Int)/2^k) 1==1)=false:=by rw [hbit,beq_eq_false_iff_ne];omega
      clear h hbit hs
      have bJ:=hE.below hB2
      have HB3:=HB.ext hB2
      clear c0 c1 c2 c3 c4 c5 b0 b1 b2 b3 b4 b5
      go_wp2
      go_roundw
      case rel=>exact ⟨k,by omega,rfl,by rw [HS.out],bJ,HB3⟩
      case measure=>simp [intOf]
theorem yB (w:World) (f:Fd) (hf:Good f) (X:Nat) :
  Calls Tryz.prog 190 #[f.V,.int .u32 (fG f X:Nat)] w fun e w'=>e = .returned (.int .u32 (fG f (X^(f.p-2)):Nat))∧Ext w w':=by
 have p0:=hf.p0
 have p1:=hf.p1
 have hw:((f.p:Int)-2)%4294967296=((f.p-2:Nat):Int):=by omega
 have hw2:(f.p:Int)-2=((f.p-2:Nat):Int):=by omega
 have hc:=fun w=>Ki w f hf X (f.p-2) (by omega)
 generalize f.p-2=n at *
 have HC:=Lib.hid hc
 clear hc
 unfold Fd.V
 go_enter Tryz.func190,Tryz.ntmps190
 go_wp2_with (fail)
 refine (HC.out _).mono ?_
 rintro e w1 ⟨rfl,hB⟩
 go_wp2
 go_ret
 exact ⟨rfl,((Ext.refl w).alloc _).below hB⟩
theorem OB (w:World) (f:Fd) (hf:Good f) (k:Nat) (hk:k≤20) :
  Calls Tryz.prog 156 #[f.V,.int .i64 (k:Nat)] w fun e w'=>e = .returned (.int .u32 (fG f (rt f k):Nat))∧Ext w w':=by
 have p0:=hf.p0
 have p1:=hf.p1
 have rb:=hf.rb
 have hk0:decide ((k:Int)<0)=false:=by rw [decide_eq_false_iff_not];omega
 have hc:=fun w=>Ki w f hf f.root ((f.p-1)/2^k) (Nat.lt_of_le_of_lt (Nat.div_le_self _ _) (by omega))
 change ∀ w,Calls _ _ _ w fun e w'=>e = .returned (.int .u32 (fG f (rt f k):Nat))∧Ext w w' at hc
 have hwa:IntKind.u32.wrap ((f.p:Int)-1)=((f.p-1:Nat):Int):=by rw [IntKind.wrap_u32];omega
 have hwb:((f.p:Int)-1)%4294967296=((f.p-1:Nat):Int):=by omega
 have hwc:(f.p:Int)-1=((f.p-1:Nat):Int):=by omega
 have hwd:((f.p-1:Nat):Int)/2^k=(((f.p-1)/2^k:Nat):Int):=by rw [Int.natCast_ediv,Int.natCast_pow];rfl
 have hwe:IntKind.u32.wrap ((f.p-1:Nat):Int)/2^k=(((f.p-1)/2^k:Nat):Int):=by rw [IntKind.wrap_u32,← hwd];congr 1;omega
 generalize (f.p-1)/2^k=n at *
 generalize f.p-1=m at *
 have HC:=Lib.hid hc
 have HX:=Bx.new w f
 clear hc
 unfold Fd.V
 go_enter Tryz.func156,Tryz.ntmps156
 go_wp2_with (fail)
 have hS0:=(show Bx (w.alloc (.cells #[.int .u32 (f.p:Int),.int .u32 (f.root:Int),.int .u32 (f.neg:Int),.int .u32 (f.square:Int),.int .u32 (f.ahead:Int)] 151)).drew w.heap.size f∧Ext w (w.alloc (.cells #[.int .u32 (f.p:Int),.int .u32 (f.root:Int),.int .u32 (f.neg:Int),.int .u32 (f.square:Int),.int .u32 (f.ahead:Int)] 151)).drew from ⟨HX,((Ext.refl w).alloc _).drew⟩)
 go_region_held3 (fun x=>(w.heap.size<x.heap.size∧x.cell? ⟨w.heap.size,0,none⟩=some (.int .u32 (f.p:Int))∧x.cell? ⟨w.heap.size,1,none⟩=some (.int .u32 (f.root:Int))∧x.cell? ⟨w.heap.size,2,none⟩=some (.int .u32 (f.neg:Int))∧x.cell? ⟨w.heap.size,3,none⟩=some (.int .u32 (f.square:Int))∧x.cell? ⟨w.heap.size,4,none⟩=some (.int .u32 (f.ahead:Int)))∧Ext w x)
  (first
   | exact hS0
   | exact aaY (by assumption) (by assumption))
  (first
   | (go_at_call 158;((with_reducible refine (wM _ f hf f.root (by omega)).mono ?_);rintro e w1 ⟨rfl,hB⟩))
   | (go_at_call 188;((with_reducible refine (HC.out _).mono ?_);rintro e w1 ⟨rfl,hB⟩)))
 go_wp2
 go_ret
 go_split_ands
 exact ⟨rfl,by assumption⟩
theorem Ie (w:World) (f:Fd) (hf:Good f) (k:Nat) (hk:k≤20) :
  Calls Tryz.prog 162 #[f.V,.int .i64 (k:Nat)] w fun e w'=>e = .returned (.int .u32 (fG f (bt f k):Nat))∧Ext w w':=by
 have HX:=Bx.new w f
 have hS0:=(show Bx (w.alloc (.cells #[.int .u32 (f.p:Int),.int .u32 (f.root:Int),.int .u32 (f.neg:Int),.int .u32 (f.square:Int),.int .u32 (f.ahead:Int)] 151)).drew w.heap.size f∧Ext w (w.alloc (.cells #[.int .u32 (f.p:Int),.int .u32 (f.root:Int),.int .u32 (f.neg:Int),.int .u32 (f.square:Int),.int .u32 (f.ahead:Int)] 151)).drew from ⟨HX,((Ext.refl w).alloc _).drew⟩)
 unfold Fd.V
 go_enter Tryz.func162,Tryz.ntmps162
 go_wp2_with (fail)
 go_region_held3 (fun x=>(w.heap.size<x.heap.size∧x.cell? ⟨w.heap.size,0,none⟩=some (.int .u32 (f.p:Int))∧x.cell? ⟨w.heap.size,1,none⟩=some (.int .u32 (f.root:Int))∧x.cell? ⟨w.heap.size,2,none⟩=some (.int .u32 (f.neg:Int))∧x.cell? ⟨w.heap.size,3,none⟩=some (.int .u32 (f.square:Int))∧x.cell? ⟨w.heap.size,4,none⟩=some (.int .u32 (f.ahead:Int)))∧Ext w x)
  (first
   | exact hS0
   | exact aaY (by assumption) (by assumption))
  (first
   | (go_at_call 156;((with_reducible refine (OB _ f hf k hk).mono ?_);rintro e w1 ⟨rfl,hB⟩))
   | (go_at_call 190;((with_reducible refine (yB _ f hf (rt f k)).mono ?_);rintro e w1 ⟨rfl,hB⟩)))
 go_wp2
 go_ret
 go_split_ands
 exact ⟨rfl,by assumption⟩
theorem OC (w:World) (f:Fd) (hf:Good f) (n:Nat) (hn:n<4294967296) :
  Calls Tryz.prog 164 #[f.V,.int .i64 (n:Nat)] w fun e w'=>e = .returned (.int .u32 (fG f (sh f n):Nat))∧Ext w w':=by
 have HX:=Bx.new w f
 have hS0:=(show Bx (w.alloc (.cells #[.int .u32 (f.p:Int),.int .u32 (f.root:Int),.int .u32 (f.neg:Int),.int .u32 (f.square:Int),.int .u32 (f.ahead:Int)] 151)).drew w.heap.size f∧Ext w (w.alloc (.cells #[.int .u32 (f.p:Int),.int .u32 (f.root:Int),.int .u32 (f.neg:Int),.int .u32 (f.square:Int),.int .u32 (f.ahead:Int)] 151)).drew from ⟨HX,((Ext.refl w).alloc _).drew⟩)
 have hw:IntKind.u32.wrap (n:Int)=(n:Int):=by rw [IntKind.wrap_u32];omega
 unfold Fd.V
 go_enter Tryz.func164,Tryz.ntmps164
 go_wp2_with (fail)
 go_region_held3 (fun x=>(w.heap.size<x.heap.size∧x.cell? ⟨w.heap.size,0,none⟩=some (.int .u32 (f.p:Int))∧x.cell? ⟨w.heap.size,1,none⟩=some (.int .u32 (f.root:Int))∧x.cell? ⟨w.heap.size,2,none⟩=some (.int .u32 (f.neg:Int))∧x.cell? ⟨w.heap.size,3,none⟩=some (.int .u32 (f.square:Int))∧x.cell? ⟨w.heap.size,4,none⟩=some (.int .u32 (f.ahead:Int)))∧Ext w x)
  (first
   | exact hS0
   | exact aaY (by assumption) (by assumption))
  (first
   | (go_at_call 158;((with_reducible refine (wM _ f hf n hn).mono ?_);rintro e w1 ⟨rfl,hB⟩))
   | (go_at_call 190;((with_reducible refine (yB _ f hf n).mono ?_);rintro e w1 ⟨rfl,hB⟩)))
 go_wp2
 go_ret
 go_split_ands
 exact ⟨rfl,by assumption⟩
end Go.Proofs.YtfhcmggpojhegaaGreatDoor
namespace Go.Proofs.YtfhcmggpojhegaaGreatDoor
open Go.RowKit
set_option linter.all false
set_option maxRecDepth 100000
set_option maxHeartbeats 8000000
theorem BA (w:World) (f:Fd) (hf:Good f) (k n W:Nat) (hn:n=2^k) (hk:k≤20) :
  Calls Tryz.prog 155 #[f.V,.int .i64 (n:Nat),.int .u32 (fG f W:Nat)] w fun e w'=>(∃ g o,e = .returned (.slice (some ⟨g,0,none⟩) o.length o.length)∧Pw f k W o∧Own w' w.heap.size (.slice (some ⟨g,0,none⟩) o.length o.length) o)∧Ext w w':=by
 have p0:=hf.p0
 have p1:=hf.p1
 have hn1:n≤1048576:=by rw [hn];exact Nat.pow_le_pow_right (by decide) hk
 have hn0:0<n:=by rw [hn];exact Nat.two_pow_pos k
 have HX:=Bx.new w f
 have hmW:=pg f hf W
 obtain ⟨h,hh⟩:∃ h,n/2=h:=⟨_,rfl⟩
 have hhi:((n:Nat):Int)/2=(h:Int):=by omega
 have hcase:(k=0∧n=1∧h=0)∨(∃ k',k=k'+1∧h=2^k'∧n=2*h):=by
  rcases k with _ | k'
  · rw [Nat.pow_zero] at hn;exact .inl ⟨rfl,hn,by omega⟩
  · rw [Nat.pow_succ] at hn;exact .inr ⟨k',rfl,by omega,by omega⟩
 have hh2:2*h≤n:=by omega
 have HC:=Lib.hid hcase
 have HN:=Lib.hid hn
 clear hcase hn hh
 obtain ⟨i0,hi,hz0,hz1,hz2⟩:=info_parts pR
 unfold Fd.V
 go_enter Tryz.func155,Tryz.ntmps155
 go_wp2_with (at_make;refine wpList_make_full _ rfl _ _ 22 rfl (w.heap.size+1) 27 i0 (.int .u32 0) 1 Tryz.underlying22 hi hz0 hz1 _ _ _ _ n rfl rfl (by omega) (by omega) (by rw [hz2];omega) (by unfold maxLen;omega) (by simp) ?_;intro w1 hown hgrow;have hY:=HX.below ((Below.refl _ _).grown hgrow (Nat.le_refl _) (fun _ h=>by cases h)) HX.1;obtain ⟨c0,c1,c2,c3,c4,c5⟩:=id hY)
 have ho0:=Own.zeros hown
 have hB0:Ext w w1:=((Ext.refl w).alloc _).grown hgrow (by simp) (fun _ h=>by cases h)
 clear hown hgrow
 refine (wM _ f hf 1 (by decide)).mono ?_
 rintro e w2 ⟨rfl,hB2⟩
 replace HX:=hY.ext hB2
 have hb0:=(Own.block ho0).2
 have ho2:=ho0.below hB2 (fun g hg=>by injection hg with hg;subst hg;exact hb0)
 have hE:=hB0.below hB2
 obtain ⟨d0,d1,d2,d3,d4,d5⟩:=id HX
 have hNB:w1.heap.size≤w2.heap.size:=hB2.size
 clear hB2 hB0 ho0 hY c0 c1 c2 c3 c4 c5 hi hz0 hz1 hz2 i0 
 go_wp2_with (fail)
 rw [show ∀ x,(w.alloc x).heap.size=w.heap.size+1 from fun x=>by simp] at ho2
 go_loopw [9,10,19] (fun x _ j wr=>∃ (i:Nat) (o:List Nat),i≤h∧j = .int .i64 i∧x = .int .u32 (fG f (W^i):Nat)∧Hid (MU f n h W i o)∧Own wr w.heap.size (.slice (some ⟨w.heap.size+1,0,none⟩) o.length n) o∧Ext w wr∧Bx wr w.heap.size f) (fun _ _ j _=>h-(intOf j).toNat)
 case atStart=>exact ⟨0,_,Nat.zero_le _,rfl,by rw [Nat.pow_zero],MU.start f hf n h W,Own.mJ (base':=w.heap.size) ho2 (by omega),hE,HX⟩
 case round =>
  clear ho2 HX d0 d1 d2 d3 d4 d5 hE
  obtain ⟨i,o,hi,rfl,rfl,HO,hown,hE,HX⟩:=hrel
  have Ea:=HO.out.len
  by_cases hlt:i<h
  · have hst:=HO.out.step hf (j:=i) (by omega)
    have hs:=hown.mQ (h+i) (fG f (W^i))
    have hfr:=hown.frozen (h+i)
    have hcl:=hown.cell (j:=h+i) (by omega)
    have hm2:=pg f hf (W^i)
    have hmm:Hid (mm f (fG f (W^i)) (fG f W)=fG f (W^(i+1))):=by rw [Hid,Ic f hf,← Nat.pow_succ]
    have HST:=Lib.hid hst
    have HX2:=HX.below (B:=w.heap.size) (C:=w.heap.size+1) ((Below.refl _ wr).setCell (p:=⟨w.heap.size+1,h+i,none⟩) (by simp) (.int .u32 (fG f (W^i):Nat))) (by omega)
    obtain ⟨c0,c1,c2,c3,c4,c5⟩:=id HX2
    have hE2:Ext w (wr.setCell ⟨w.heap.size+1,h+i,none⟩ (.int .u32 (fG f (W^i):Nat))):=hE.setCell (by simp) _
    generalize fG f (W^i)=Y at *
    clear hst hown HX HO Ea
    go_wp2_with (fail)
    refine (jG _ f hf Y (fG f W) (by omega) (by omega) (nH (by omega) hmW)).mono ?_
    rintro e w3 ⟨rfl,hB3⟩
    rw [hmm.out]
    have hs3:=hs.below hB3 (fun g hg=>by injection hg with hg;subst hg;exact (Own.block hs).2)
    have bJ:=hE2.below hB3
    have HX3:=HX2.ext hB3
    clear c0 c1 c2 c3 c4 c5 hs HX2 hE2 hB3 hcl hfr hE
    go_wp2_with (fail)
    go_roundw
    case rel=>exact ⟨i+1,_,by omega,by go_num,rfl,HST.out,hs3,bJ,HX3⟩
    case measure=>simp [intOf];omega
  · obtain rfl:i=h:=by omega
    clear hlt hi
    go_wp2_with (fail)
    have HD:Hid (MV f n i W (i-1) o):=⟨HO.out,fun m h1 h2=>by omega⟩
    clear HO Ea HX
    go_loopw [11] (fun j wr=>∃ (m:Nat) (o:List Nat),m≤i∧j = .int .i64 ((m:Int)-1)∧Hid (MV f n i W (m-1) o)∧Own wr w.heap.size (.slice (some ⟨w.heap.size+1,0,none⟩) o.length n) o∧Ext w wr) (fun j _=>(intOf j+1).toNat)
    case atStart=>exact ⟨i,o,Nat.le_refl _,rfl,HD,hown,hE⟩
    case round =>
     clear HD hown hE
     obtain ⟨m,o,hm,rfl,HD,hown,hE⟩:=hrel
     have Ea:=HD.out.up.len
     by_cases hlt:2≤m
     · obtain ⟨q,rfl⟩:∃ q,m=q+1:=⟨m-1,by omega⟩
       have HDn:=Lib.hid (HD.out.step (by omega) (by omega) (by rcases HC.out with ⟨_,_,h⟩ | ⟨_,_,_,h⟩<;>omega))
       rw [Nat.add_sub_cancel] at HDn
       have hqq:(((q+1:Nat):Int)-1)=(q:Int):=by omega
       rw [hqq]
       have hs:=hown.mQ q (lb o (2*q))
       have hfr:=hown.frozen q
       have hcl:=hown.cell (j:=q) (by omega)
       have aAG:=hown.cell (j:=2*q) (by omega)
       have hE2:Ext w (wr.setCell ⟨w.heap.size+1,q,none⟩ (.int .u32 (lb o (2*q):Nat))):=hE.setCell (by simp) _
       have hv:lb o (2*q)<4294967296:=Nat.lt_of_lt_of_le (bK (by omega) HD.out.up.lt _) (by omega)
       generalize lb o (2*q)=Y at *
       clear HD Ea hown hqq
       go_wp2_with (fail)
       go_roundw
       case rel=>exact ⟨q,_,by omega,rfl,HDn.out,hs,hE2⟩
       case measure=>simp [intOf]
     · have HP:Hid (Pw f k W o):=by
        have e:m-1=0:=by omega
        rw [e] at HD
        rcases HC.out with ⟨h1,h2,h3⟩ | ⟨k',h1,h2,h3⟩
        · subst h1;exact Pw.one f hf W o (by omega) HD.out.up.lt
        · subst h1;subst h2;exact MV.done (by have:=HD.out;rwa [h3,← Nat.pow_succ'] at this)
       have hon:o.length=n:=Ea
       rw [hon] at hown
       have HF:Hid (∃ g o',(Value.slice (some ⟨w.heap.size+1,0,none⟩) n n) = .slice (some ⟨g,0,none⟩) o'.length o'.length∧Pw f k W o'∧Own wr w.heap.size (.slice (some ⟨g,0,none⟩) o'.length o'.length) o'):=⟨_,o,by rw [hon],HP.out,by rw [hon];exact hown⟩
       clear HP HD Ea hon hown
       go_wp2_with (fail)
       obtain ⟨g,o',h1,h2,h3⟩:=HF.out
       go_ret
       exact ⟨⟨g,o',by rw [← h1];rfl,h2,h3⟩,hE⟩
end Go.Proofs.YtfhcmggpojhegaaGreatDoor
namespace Go.Proofs.YtfhcmggpojhegaaGreatDoor
set_option linter.all false
set_option maxRecDepth 100000
set_option maxHeartbeats 8000000
theorem geo (p w:Int) (k e:Nat) (hr:Rt p w k) (he:¬ 2^k∣e):dx p (sm (2^k) fun q=>(w^e)^q) 0:=by
 induction k generalizing w e with
 | zero=>exact absurd (Nat.one_dvd _) he
 | succ k ih =>
  have e1:sm (2^(k+1)) (fun q=>(w^e)^q)=(1+(w^e)^2^k)*sm (2^k) (fun q=>(w^e)^q):=by
   rw [Nat.pow_succ',Ia,← Di]
   exact gp fun q _=>by rw [Int.pow_add (w^e)];grind
  rw [e1]
  have hn:=hr.2 (by omega)
  rw [Nat.add_sub_cancel] at hn
  obtain ⟨c,hc⟩:∃ c,e=2*c∨e=2*c+1:=⟨e/2,by omega⟩
  rcases hc with rfl | rfl
  · have e2:∀ q,(w^(2*c))^q=((w^2)^c)^q:=fun q=>by rw [Int.pow_mul]
    simp only [e2]
    have:=ih (w^2) c ⟨by rw [← Int.pow_mul,← Nat.pow_succ'];exact hr.1,fun h0=>by rw [← Int.pow_mul,← Nat.pow_succ'];rwa [show (k-1).succ=k by omega]⟩ (fun ⟨d,hd⟩=>he ⟨d,by rw [hd,Nat.pow_succ'];grind⟩)
    have:=(dx.refl p (1+((w^2)^c)^2^k)).mul this
    rwa [Int.mul_zero] at this
  · have e2:dx p ((w^(2*c+1))^2^k) (-1):=by
     rw [← Int.pow_mul,Nat.mul_comm,Int.pow_mul]
     refine (hn.pow _).trans (dx.of_eq ?_)
     rw [Int.pow_succ,Int.pow_mul,show ((-1:Int))^2=1 by decide,Int.one_pow];rfl
    have:=((dx.refl p 1).add e2).mul (dx.refl p (sm (2^k) fun q=>(w^(2*c+1))^q))
    rwa [show (1 + -1:Int)=0 by decide,Int.zero_mul] at this
end Go.Proofs.YtfhcmggpojhegaaGreatDoor
namespace Go.Proofs.YtfhcmggpojhegaaGreatDoor
open Go.RowKit
set_option linter.all false
set_option maxRecDepth 100000
set_option maxHeartbeats 8000000
theorem But.bx {g B:Nat} {a b:World} {f:Fd} (h:But g a b) (hx:Bx a B f) (hne:B≠g):Bx b B f:=by
 obtain ⟨h0,h1,h2,h3,h4,h5⟩:=hx
 have hc:=fun o=>h.cell (p:=⟨B,o,none⟩) h0 hne
 exact ⟨Nat.lt_of_lt_of_le h0 h.size,by rw [hc];exact h1,by rw [hc];exact h2,by rw [hc];exact h3,by rw [hc];exact h4,by rw [hc];exact h5⟩
theorem down_calls (w:World) (f:Fd) (hf:Good f) (k W:Nat) (l pw:List Nat) (g q c base:Nat) (hk:k≤20) (hr:Rt f.p W k) (hp:Pw f k W pw)
  (hl:l.length=2^k) (hlt:∀ x∈l,x<f.p) (hown:Own w base (.slice (some ⟨g,0,none⟩) l.length c) l) (hq:Rd w q pw) (hqg:q≠g) :
  Calls Tryz.prog 159 #[f.V,.slice (some ⟨g,0,none⟩) l.length c,.slice (some ⟨q,0,none⟩) pw.length pw.length] w fun e w'=>e = .returned (.tuple #[])∧(∃ o,oL f k W l 0 o∧Own w' base (.slice (some ⟨g,0,none⟩) o.length c) o)∧But g w w':=by
 have p0:=hf.p0
 have p1:=hf.p1
 have HX:=Bx.new w f
 have hpl:=hp.len
 obtain ⟨n,hn⟩:∃ n,2^k=n:=⟨_,rfl⟩
 have hn1:n≤1048576:=by rw [← hn];exact Nat.pow_le_pow_right (by decide) hk
 have hn0:0<n:=by rw [← hn];exact Nat.two_pow_pos k
 have hcap:=hown.caps
 have hgb:=hown.block
 have hB0:But g w (w.alloc (.cells #[.int .u32 (f.p:Int),.int .u32 (f.root:Int),.int .u32 (f.neg:Int),.int .u32 (f.square:Int),.int .u32 (f.ahead:Int)] 151)):=(But.refl g w).ext ((Ext.refl w).alloc _)
 have hq0:=hB0.rd hq hqg
 have hown0:=hown.ext ((Ext.refl w).alloc (.cells #[.int .u32 (f.p:Int),.int .u32 (f.root:Int),.int .u32 (f.neg:Int),.int .u32 (f.square:Int),.int .u32 (f.ahead:Int)] 151))
 have hwg:w.heap.size≠g:=by omega
 rw [hn] at hl hpl
 rw [hl] at hown0 hcap ⊢
 rw [hpl]
 have HS:Hid (oL f k W l k l):=oL.start f k W l (by rw [hl,hn]) hlt
 have HN:=Lib.hid hn
 have HP:=Lib.hid hp
 clear hn hown hq hp hlt hpl hl
 obtain ⟨hc1,hc2,hc3⟩:=hcap
 unfold maxLen at hc3
 obtain ⟨h0,hh0⟩:∃ h0,n/2=h0:=⟨_,rfl⟩
 have hst:((n:Nat):Int)/2=(h0:Int):=by omega
 have HH:=Lib.hid hh0
 clear hh0
 unfold Fd.V
 go_enter Tryz.func159,Tryz.ntmps159
 go_wp2
 go_loopw [6] (fun h wr=>∃ (s:Nat) (o:List Nat),s≤k∧h = .int .i64 ((2^s/2:Nat):Int)∧Hid (oL f k W l s o)∧Own wr base (.slice (some ⟨g,0,none⟩) n c) o∧But g w wr∧Bx wr w.heap.size f∧Rd wr q pw) (fun h _=>(intOf h).toNat)
 case atStart=>exact ⟨k,l,Nat.le_refl _,by rw [HN.out,HH.out],HS,hown0,hB0,HX,hq0⟩
 case round =>
  clear HX hq0 hown0 hB0 HS
  obtain ⟨s,o,hs,rfl,HS,hown,hB,HX,hq⟩:=hrel
  rcases s with _ | s
  · go_wp2
    go_end0
    exact ⟨rfl,⟨o,HS.out,by rw [HS.out.len,HN.out];exact hown⟩,hB⟩
  · obtain ⟨h,hh⟩:∃ h,2^s=h:=⟨_,rfl⟩
    rw [show 2^(s+1)/2=h by rw [Nat.pow_succ,hh];omega]
    have hM:2^(k-(s+1))*(2*h)=n:=by rw [← hh,← Nat.pow_succ',← Nat.pow_add,← HN.out];congr 1;omega
    have hh0:0<h:=by rw [← hh];exact Nat.two_pow_pos s
    obtain ⟨M,hMM⟩:∃ M,2^(k-(s+1))=M:=⟨_,rfl⟩
    rw [hMM] at hM
    have HMM:=Lib.hid hMM
    clear hMM
    have hM0 : 0 < M := by rcases Nat.eq_zero_or_pos M with e | e;· rw [e] at hM;omega
                           · exact e
    have h2h:2*h≤n:=by rw [← hM];exact Nat.le_mul_of_pos_left _ hM0
    have HM:=Lib.hid hM
    have HHH:=Lib.hid hh
    have h2:2*h-h=h:=by omega
    have Ea:o.length=n:=by rw [HS.out.len];exact HN.out
    have HOL:=Lib.hid Ea
    clear hM hh hst Ea
    go_wp2
    rw [h2]
    clear h2
    go_loopw [8] (fun a wr=>∃ (b A:Nat),b≤M∧Hid (A=b*(2*h))∧a = .int .i64 (A:Nat)∧A≤n∧Own wr base (.slice (some ⟨g,0,none⟩) n c) (mid (U7 f pw h) h b o)∧But g w wr∧Bx wr w.heap.size f∧Rd wr q pw) (fun a _=>n-(intOf a).toNat)
    case atStart=>exact ⟨0,0,Nat.zero_le _,by rw [Hid,Nat.zero_mul],rfl,Nat.zero_le _,hown,hB,HX,hq⟩
    case round =>
     clear hown hB HX hq
     obtain ⟨b,A,hb,HA,rfl,hAn,hown,hB,HX,hq⟩:=hrel
     by_cases hlt:A<n
     · have hA2:A+2*h≤n:=by
        have h1:=HA.out
        have h3:=HM.out
        have:b<M:=by
         rcases Nat.lt_or_ge b M with h | h
         · exact h
         · have:b=M:=by omega
           subst this;omega
        have:=Nat.mul_le_mul_right (2*h) (show b+1≤M from this)
        rw [Nat.add_mul,Nat.one_mul] at this
        omega
       have hbM:b+1≤M:=by
        have h1:=HA.out
        have h3:=HM.out
        rcases Nat.lt_or_ge b M with h | h
        · exact h
        · have:b=M:=by omega
          subst this;omega
       obtain ⟨o1,ho1⟩:∃ o1,mid (U7 f pw h) h b o=o1:=⟨_,rfl⟩
       have HO1:=Lib.hid ho1
       rw [ho1] at hown
       clear ho1
       go_wp2
       go_region
       go_wp2
       have hL1:A+h-A=h:=by omega
       have hL2:A+2*h-(A+h)=h:=by omega
       rw [hL1,hL2]
       clear hL1 hL2
       have P:=ME f hf pw h n
       have Ro:Hid (o1.length=n):=by rw [Hid,← HO1.out,zF P];exact HOL.out
       have Rp:Hid (∀ x∈o1,x<f.p):=by rw [Hid,← HO1.out];exact Kz P _ _ HS.out.lt
       go_loopw [52] (fun t wr=>∃ j:Nat,j≤h∧t = .int .i64 (j:Nat)∧Own wr base (.slice (some ⟨g,0,none⟩) n c) (IL (U7 f pw h) A j o1)∧But g w wr∧Bx wr w.heap.size f∧Rd wr q pw) (fun t _=>h-(intOf t).toNat)
       case atStart=>exact ⟨0,Nat.zero_le _,rfl,hown,hB.drew,HX,hq⟩
       case round =>
        clear hown hB HX hq
        obtain ⟨j,hj,rfl,hown,hB,HX,hq⟩:=hrel
        by_cases hjh:j<h
        · obtain ⟨o2,ho2⟩:∃ o2,IL (U7 f pw h) A j o1=o2:=⟨_,rfl⟩
          have Rq:∀ x∈o2,x<f.p:=by rw [← ho2];exact Pp P _ _ _ Rp.out
          have aa2:o2.length=n:=by rw [← ho2,EF P];exact Ro.out
          have aa3:=Lib.hid aa2
          have HST:Hid (IL (U7 f pw h) A (j+1) o1=(o2.set (A+j) ((lb o2 (A+j)+lb o2 (A+h+j))%f.p)).set (A+h+j) (mm f (lb o2 (A+j)+f.p-lb o2 (A+h+j)) (lb pw (h+j)))):=by
           rw [Hid,IL,ho2];rfl
          rw [ho2] at hown
          have hx1:lb o2 (A+j)<f.p:=bK (by omega) Rq _
          have hx2:lb o2 (A+h+j)<f.p:=bK (by omega) Rq _
          have hx3:lb pw (h+j)<f.p:=bK (by omega) HP.out.lt _
          have hr1:=hq.2 (h+j) (by rw [HP.out.len,HN.out];omega)
          have hr2:=hown.rd.2 (A+j) (by omega)
          have hr3:=hown.rd.2 (A+h+j) (by omega)
          have ajf:=hown.frozen' (A+j)
          obtain ⟨b0,b1,b2,b3,b4,b5⟩:=id HX
          generalize lb o2 (A+j)=x at *
          generalize lb o2 (A+h+j)=y at *
          generalize lb pw (h+j)=r at *
          clear ho2 Rq aa2 Ro Rp HO1 P
          obtain ⟨d,hd⟩:∃ d,x+f.p-y=d:=⟨_,rfl⟩
          have hdi:(x:Int)+(f.p:Int)-(y:Int)=(d:Int):=by omega
          have hd2:d<4294967296:=by omega
          have HDD:=Lib.hid hd
          clear hd
          go_wp2
          go_region
          go_wp2_with (fail)
          refine (Kh _ f hf x y hx1 hx2).mono ?_
          rintro e w2 ⟨rfl,hB2⟩
          replace hB2:Ext wr w2:=((Ext.refl wr).drew).below hB2
          have hs2:=hown.ext hB2
          have hB3:=hB.ext hB2
          have hX2:=HX.ext hB2
          have hq2:Rd w2 q pw:=((But.refl g wr).ext hB2).rd hq hqg
          have hf2:=hs2.frozen' (A+j)
          have hc4:=hs2.rd.2 (A+j) (by have:=aa3.out;omega)
          have hs3:=hs2.set' (A+j) ((x+y)%f.p)
          have hB4:=hB3.setCell (A+j) (.int .u32 ((x+y)%f.p:Nat))
          have YK:=((But.refl g w2).setCell (A+j) (.int .u32 ((x+y)%f.p:Nat))).bx hX2 hwg
          have hq3:=((But.refl g w2).setCell (A+j) (.int .u32 ((x+y)%f.p:Nat))).rd hq2 hqg
          have hz:(x+y)%f.p<4294967296:=Nat.lt_trans (Nat.mod_lt _ (by omega)) (by omega)
          generalize (x+y)%f.p=z at *
          clear hown hB HX hq hs2 hB3 hX2 hq2 b0 b1 b2 b3 b4 b5 hr2 hr3 hr1 ajf
          obtain ⟨b0,b1,b2,b3,b4,b5⟩:=id YK
          go_wp2_with (fail)
          refine (jG _ f hf d r hd2 (by omega) (nH hd2 hx3)).mono ?_
          rintro e w3 ⟨rfl,dJ⟩
          have hs5:=hs3.ext dJ
          have dV:=hB4.ext dJ
          have Jw:=YK.ext dJ
          have Tm:Rd w3 q pw:=((But.refl g _).ext dJ).rd hq3 hqg
          have hf5:=hs5.frozen' (A+h+j)
          have Po:=hs5.rd.2 (A+h+j) (by rw [List.length_set];have:=aa3.out;omega)
          have hs6:=hs5.set' (A+h+j) (mm f d r)
          have dP:=dV.setCell (A+h+j) (.int .u32 (mm f d r:Nat))
          have Pg:=((But.refl g w3).setCell (A+h+j) (.int .u32 (mm f d r:Nat))).bx Jw hwg
          have hq6:=((But.refl g w3).setCell (A+h+j) (.int .u32 (mm f d r:Nat))).rd Tm hqg
          rw [HDD.out] at HST
          rw [← HST.out] at hs6
          generalize mm f d r=v at *
          clear hs3 hB4 YK hq3 hs5 dV Jw Tm hf2 hc4 b0 b1 b2 b3 b4 b5 HST hdi
          go_wp2_with (fail)
          go_roundw
          case rel=>exact ⟨j+1,by omega,by go_num,hs6,dP,Pg,hq6⟩
          case measure=>simp [intOf];omega
        · obtain rfl:j=h:=by omega
          have hfin:Hid (IL (U7 f pw j) A j o1=mid (U7 f pw j) j (b+1) o):=by rw [Hid,mid,← HA.out,HO1.out]
          rw [hfin.out] at hown
          have hA3:Hid (A+2*j=(b+1)*(2*j)):=by rw [Hid,Nat.add_mul,Nat.one_mul,HA.out]
          clear Ro Rp HO1 P hjh
          go_wp2
          go_roundw
          case rel=>exact ⟨b+1,A+2*j,by omega,hA3,by go_num,by omega,hown,hB,HX,hq⟩
          case measure=>simp [intOf];omega
     · obtain rfl:A=n:=by omega
       have hbM:b=M:=by
        have h1:=HA.out
        have h3:=HM.out
        rcases Nat.lt_or_ge b M with hbM | hbM
        · have:=Nat.mul_lt_mul_of_pos_right hbM (show 0<2*h by omega)
          omega
        · omega
       have HD:Hid (oL f k W l s (mid (U7 f pw h) h b o)):=by
        have:=HS.out.step hf hr HP.out hs
        rw [HHH.out,HMM.out,← hbM] at this
        exact this
       generalize mid (U7 f pw h) h b o=o3 at *
       have IQ:((h:Nat):Int)/2=((h/2:Nat):Int):=by omega
       obtain ⟨h5,hh5⟩:∃ h5,h/2=h5:=⟨_,rfl⟩
       rw [hh5] at IQ
       have HH5:=Lib.hid hh5
       clear hh5 HA HM hlt
       go_wp2
       go_roundw
       case rel=>exact ⟨s,o3,by omega,by rw [HHH.out,HH5.out],HD,hown,hB,HX,hq⟩
       case measure=>simp [intOf];omega
end Go.Proofs.YtfhcmggpojhegaaGreatDoor
namespace Go.Proofs.YtfhcmggpojhegaaGreatDoor
open Go.RowKit
set_option linter.all false
set_option maxRecDepth 100000
set_option maxHeartbeats 8000000
theorem aos {x y:World} {B g a b:Nat} {f:Fd} {u v:Value} (h:(B<x.heap.size∧x.cell? ⟨B,0,none⟩=some (.int .u32 (f.p:Int))∧x.cell? ⟨B,1,none⟩=some (.int .u32 (f.root:Int))∧x.cell? ⟨B,2,none⟩=some (.int .u32 (f.neg:Int))∧x.cell? ⟨B,3,none⟩=some (.int .u32 (f.square:Int))∧x.cell? ⟨B,4,none⟩=some (.int .u32 (f.ahead:Int)))∧x.cell? ⟨g,a,none⟩=some u∧x.cell? ⟨g,b,none⟩=some v) (hB:Ext x y) :
  (B<y.heap.size∧y.cell? ⟨B,0,none⟩=some (.int .u32 (f.p:Int))∧y.cell? ⟨B,1,none⟩=some (.int .u32 (f.root:Int))∧y.cell? ⟨B,2,none⟩=some (.int .u32 (f.neg:Int))∧y.cell? ⟨B,3,none⟩=some (.int .u32 (f.square:Int))∧y.cell? ⟨B,4,none⟩=some (.int .u32 (f.ahead:Int)))∧y.cell? ⟨g,a,none⟩=some u∧y.cell? ⟨g,b,none⟩=some v :=
 ⟨Bx.ext (f:=f) h.1 hB,(hB.cell (p:=⟨g,a,none⟩) (World.block_lt_of_cell? x _ h.2.1)).trans h.2.1,(hB.cell (p:=⟨g,b,none⟩) (World.block_lt_of_cell? x _ h.2.2)).trans h.2.2⟩
theorem OD {x y:World} {B:Nat} {f:Fd} (h:(B<x.heap.size∧x.cell? ⟨B,0,none⟩=some (.int .u32 (f.p:Int))∧x.cell? ⟨B,1,none⟩=some (.int .u32 (f.root:Int))∧x.cell? ⟨B,2,none⟩=some (.int .u32 (f.neg:Int))∧x.cell? ⟨B,3,none⟩=some (.int .u32 (f.square:Int))∧x.cell? ⟨B,4,none⟩=some (.int .u32 (f.ahead:Int)))) (hB:Ext x y):(B<y.heap.size∧y.cell? ⟨B,0,none⟩=some (.int .u32 (f.p:Int))∧y.cell? ⟨B,1,none⟩=some (.int .u32 (f.root:Int))∧y.cell? ⟨B,2,none⟩=some (.int .u32 (f.neg:Int))∧y.cell? ⟨B,3,none⟩=some (.int .u32 (f.square:Int))∧y.cell? ⟨B,4,none⟩=some (.int .u32 (f.ahead:Int))):=Bx.ext (f:=f) h hB
theorem aot {x:World} {B g i:Nat} {v:Value} {f:Fd} (h:(B<x.heap.size∧x.cell? ⟨B,0,none⟩=some (.int .u32 (f.p:Int))∧x.cell? ⟨B,1,none⟩=some (.int .u32 (f.root:Int))∧x.cell? ⟨B,2,none⟩=some (.int .u32 (f.neg:Int))∧x.cell? ⟨B,3,none⟩=some (.int .u32 (f.square:Int))∧x.cell? ⟨B,4,none⟩=some (.int .u32 (f.ahead:Int)))) (hne:B≠g):(B<(x.setCell ⟨g,i,none⟩ v).heap.size∧(x.setCell ⟨g,i,none⟩ v).cell? ⟨B,0,none⟩=some (.int .u32 (f.p:Int))∧(x.setCell ⟨g,i,none⟩ v).cell? ⟨B,1,none⟩=some (.int .u32 (f.root:Int))∧(x.setCell ⟨g,i,none⟩ v).cell? ⟨B,2,none⟩=some (.int .u32 (f.neg:Int))∧(x.setCell ⟨g,i,none⟩ v).cell? ⟨B,3,none⟩=some (.int .u32 (f.square:Int))∧(x.setCell ⟨g,i,none⟩ v).cell? ⟨B,4,none⟩=some (.int .u32 (f.ahead:Int))):=((But.refl g x).setCell i v).bx (f:=f) h hne
theorem aa4 (w : World) (f : Fd) (hf:Good f) (k W:Nat) (l pw:List Nat) (g q c base:Nat) (hk:k≤20) (hr:Rt f.p W k) (hp:Pw f k W pw)
  (hl:l.length=2^k) (hlt:∀ x∈l,x<f.p) (hown:Own w base (.slice (some ⟨g,0,none⟩) l.length c) l) (hq:Rd w q pw) (hqg:q≠g) :
  Calls Tryz.prog 161 #[f.V,.slice (some ⟨g,0,none⟩) l.length c,.slice (some ⟨q,0,none⟩) pw.length pw.length] w fun e w'=>e = .returned (.tuple #[])∧(∃ o,WW f k W l k o∧Own w' base (.slice (some ⟨g,0,none⟩) o.length c) o)∧But g w w':=by
 have p0:=hf.p0
 have p1:=hf.p1
 have HX:=Bx.new w f
 have hpl:=hp.len
 obtain ⟨n,hn⟩:∃ n,2^k=n:=⟨_,rfl⟩
 have hn1:n≤1048576:=by rw [← hn];exact Nat.pow_le_pow_right (by decide) hk
 have hn0:0<n:=by rw [← hn];exact Nat.two_pow_pos k
 have hcap:=hown.caps
 have hgb:=hown.block
 have hB0:But g w (w.alloc (.cells #[.int .u32 (f.p:Int),.int .u32 (f.root:Int),.int .u32 (f.neg:Int),.int .u32 (f.square:Int),.int .u32 (f.ahead:Int)] 151)):=(But.refl g w).ext ((Ext.refl w).alloc _)
 have hq0:=hB0.rd hq hqg
 have hown0:=hown.ext ((Ext.refl w).alloc (.cells #[.int .u32 (f.p:Int),.int .u32 (f.root:Int),.int .u32 (f.neg:Int),.int .u32 (f.square:Int),.int .u32 (f.ahead:Int)] 151))
 have hwg:w.heap.size≠g:=by omega
 rw [hn] at hl hpl
 rw [hl] at hown0 hcap ⊢
 rw [hpl]
 have HS:Hid (WW f k W l 0 l):=WW.start f k W l (by rw [hl,hn]) hlt
 have HN:=Lib.hid hn
 have HP:=Lib.hid hp
 clear hn hown hq hp hlt hpl hl
 obtain ⟨hc1,hc2,hc3⟩:=hcap
 unfold maxLen at hc3
 unfold Fd.V
 go_enter Tryz.func161,Tryz.ntmps161
 go_wp2
 go_loopw [6] (fun h wr=>∃ (s H:Nat) (o:List Nat),s≤k∧h = .int .i64 (H:Nat)∧Hid (2^s=H)∧Hid (WW f k W l s o)∧Own wr base (.slice (some ⟨g,0,none⟩) n c) o∧But g w wr∧Bx wr w.heap.size f∧Rd wr q pw) (fun h _=>n-(intOf h).toNat)
 case atStart=>exact ⟨0,1,l,Nat.zero_le _,rfl,rfl,HS,hown0,hB0,HX,hq0⟩
 case round =>
  clear HX hq0 hown0 hB0 HS
  obtain ⟨s,h,o,hs,rfl,HHH,HS,hown,hB,HX,hq⟩:=hrel
  rcases Nat.lt_or_eq_of_le hs with hs | rfl
  · have hh := HHH.out
    have hM:2^(k-(s+1))*(2*h)=n:=by rw [← hh,← Nat.pow_succ',← Nat.pow_add,← HN.out];congr 1;omega
    have hh0:0<h:=by rw [← hh];exact Nat.two_pow_pos s
    obtain ⟨M,hMM⟩:∃ M,2^(k-(s+1))=M:=⟨_,rfl⟩
    rw [hMM] at hM
    have HMM:=Lib.hid hMM
    clear hMM
    have hM0 : 0 < M := by rcases Nat.eq_zero_or_pos M with e | e;· rw [e] at hM;omega
                           · exact e
    have h2h:2*h≤n:=by rw [← hM];exact Nat.le_mul_of_pos_left _ hM0
    have HM:=Lib.hid hM
    have h2:2*h-h=h:=by omega
    have hhn:h<n:=by omega
    have hhd:decide (h<n)=true:=decide_eq_true hhn
    have Ea:o.length=n:=by rw [HS.out.len];exact HN.out
    have HOL:=Lib.hid Ea
    clear hM hh Ea
    go_wp2
    rw [h2]
    clear h2
    go_loopw [8] (fun a wr=>∃ (b A:Nat),b≤M∧Hid (A=b*(2*h))∧a = .int .i64 (A:Nat)∧A≤n∧Own wr base (.slice (some ⟨g,0,none⟩) n c) (mid (U8 f pw h) h b o)∧But g w wr∧Bx wr w.heap.size f∧Rd wr q pw) (fun a _=>n-(intOf a).toNat)
    case atStart=>exact ⟨0,0,Nat.zero_le _,by rw [Hid,Nat.zero_mul],rfl,Nat.zero_le _,hown,hB,HX,hq⟩
    case round =>
     clear hown hB HX hq
     obtain ⟨b,A,hb,HA,rfl,hAn,hown,hB,HX,hq⟩:=hrel
     by_cases hlt:A<n
     · have hA2:A+2*h≤n:=by
        have h1:=HA.out
        have h3:=HM.out
        have:b<M:=by
         rcases Nat.lt_or_ge b M with h | h
         · exact h
         · have:b=M:=by omega
           subst this;omega
        have:=Nat.mul_le_mul_right (2*h) (show b+1≤M from this)
        rw [Nat.add_mul,Nat.one_mul] at this
        omega
       have hbM:b+1≤M:=by
        have h1:=HA.out
        have h3:=HM.out
        rcases Nat.lt_or_ge b M with h | h
        · exact h
        · have:b=M:=by omega
          subst this;omega
       obtain ⟨o1,ho1⟩:∃ o1,mid (U8 f pw h) h b o=o1:=⟨_,rfl⟩
       have HO1:=Lib.hid ho1
       rw [ho1] at hown
       clear ho1
       go_wp2
       go_region
       go_wp2
       have hL1:A+h-A=h:=by omega
       have hL2:A+2*h-(A+h)=h:=by omega
       rw [hL1,hL2]
       clear hL1 hL2
       have P:=MF f hf pw h n
       have Ro:Hid (o1.length=n):=by rw [Hid,← HO1.out,zF P];exact HOL.out
       have Rp:Hid (∀ x∈o1,x<f.p):=by rw [Hid,← HO1.out];exact Kz P _ _ HS.out.lt
       go_loopw [51] (fun t wr=>∃ j:Nat,j≤h∧t = .int .i64 (j:Nat)∧Own wr base (.slice (some ⟨g,0,none⟩) n c) (IL (U8 f pw h) A j o1)∧But g w wr∧Bx wr w.heap.size f∧Rd wr q pw) (fun t _=>h-(intOf t).toNat)
       case atStart=>exact ⟨0,Nat.zero_le _,rfl,hown,hB.drew,HX,hq⟩
       case round =>
        clear hown hB HX hq
        obtain ⟨j,hj,rfl,hown,hB,HX,hq⟩:=hrel
        by_cases hjh:j<h
        · obtain ⟨o2,ho2⟩:∃ o2,IL (U8 f pw h) A j o1=o2:=⟨_,rfl⟩
          have Rq:∀ x∈o2,x<f.p:=by rw [← ho2];exact Pp P _ _ _ Rp.out
          have aa2:o2.length=n:=by rw [← ho2,EF P];exact Ro.out
          have aa3:=Lib.hid aa2
          have HST:Hid (IL (U8 f pw h) A (j+1) o1=(o2.set (A+j) ((lb o2 (A+j)+mm f (lb o2 (A+h+j)) (lb pw (h+j)))%f.p)).set (A+h+j) ((lb o2 (A+j)+f.p-mm f (lb o2 (A+h+j)) (lb pw (h+j)))%f.p)):=by
           rw [Hid,IL,ho2];rfl
          rw [ho2] at hown
          have hx1:lb o2 (A+j)<f.p:=bK (by omega) Rq _
          have hx2:lb o2 (A+h+j)<f.p:=bK (by omega) Rq _
          have hx3:lb pw (h+j)<f.p:=bK (by omega) HP.out.lt _
          have hr1:=hq.2 (h+j) (by rw [HP.out.len,HN.out];omega)
          have hr2:=hown.rd.2 (A+j) (by omega)
          have hr3:=hown.rd.2 (A+h+j) (by omega)
          have ajf:=hown.frozen' (A+j)
          obtain ⟨b0,b1,b2,b3,b4,b5⟩:=id HX
          generalize lb o2 (A+j)=x at *
          generalize lb o2 (A+h+j)=y at *
          generalize lb pw (h+j)=r at *
          clear ho2 Rq aa2 Ro Rp HO1 P
          have HR:=Lib.hid (Nat.lt_of_lt_of_le hx3 (Nat.le_of_lt p1))
          have hS0:(w.heap.size<wr.drew.heap.size∧wr.drew.cell? ⟨w.heap.size,0,none⟩=some (.int .u32 (f.p:Int))∧wr.drew.cell? ⟨w.heap.size,1,none⟩=some (.int .u32 (f.root:Int))∧wr.drew.cell? ⟨w.heap.size,2,none⟩=some (.int .u32 (f.neg:Int))∧wr.drew.cell? ⟨w.heap.size,3,none⟩=some (.int .u32 (f.square:Int))∧wr.drew.cell? ⟨w.heap.size,4,none⟩=some (.int .u32 (f.ahead:Int)))∧wr.drew.cell? ⟨g,A+j,none⟩=some (.int .u32 (x:Nat))∧wr.drew.cell? ⟨g,A+h+j,none⟩=some (.int .u32 (y:Nat)):=⟨⟨b0,b1,b2,b3,b4,b5⟩,hr2,hr3⟩
          have hi1:(j:Int)<(h:Int):=by omega
          have hi0:(0:Int)≤(j:Int):=by omega
          have HMu:=Lib.hid (uZ f hf y r)
          go_wp2
          go_region_held3 (fun X=>(w.heap.size<X.heap.size∧X.cell? ⟨w.heap.size,0,none⟩=some (.int .u32 (f.p:Int))∧X.cell? ⟨w.heap.size,1,none⟩=some (.int .u32 (f.root:Int))∧X.cell? ⟨w.heap.size,2,none⟩=some (.int .u32 (f.neg:Int))∧X.cell? ⟨w.heap.size,3,none⟩=some (.int .u32 (f.square:Int))∧X.cell? ⟨w.heap.size,4,none⟩=some (.int .u32 (f.ahead:Int)))∧X.cell? ⟨g,A+j,none⟩=some (.int .u32 (x:Nat))∧X.cell? ⟨g,A+h+j,none⟩=some (.int .u32 (y:Nat)))
           (first
            | exact hS0
            | exact aos (by assumption) (by assumption))
           (first
            | (go_at_call 160;((with_reducible refine (jG _ f hf y r (by omega) (by omega) (nH (by omega) hx3)).mono ?_);rintro e w2 ⟨rfl,hB2⟩)))
          go_wp2
          replace hB2:Ext wr w2:=((Ext.refl wr).drew).below hB2
          have hs2:=hown.ext hB2
          have hB3:=hB.ext hB2
          have hX2:=HX.ext hB2
          have hq2:Rd w2 q pw:=((But.refl g wr).ext hB2).rd hq hqg
          have hx4:=HMu.out
          generalize mm f y r=m at *
          clear hown hB HX hq b0 b1 b2 b3 b4 b5 hr2 hr3 hr1 ajf hS0 HMu hB2
          have hso:Own w2.drew base (.slice (some ⟨g,0,none⟩) n c) o2:=hs2
          have hBo:But g w w2.drew:=hB3.drew
          have hqo:Rd w2.drew q pw:=hq2
          have hS1:(w.heap.size<w2.drew.heap.size∧w2.drew.cell? ⟨w.heap.size,0,none⟩=some (.int .u32 (f.p:Int))∧w2.drew.cell? ⟨w.heap.size,1,none⟩=some (.int .u32 (f.root:Int))∧w2.drew.cell? ⟨w.heap.size,2,none⟩=some (.int .u32 (f.neg:Int))∧w2.drew.cell? ⟨w.heap.size,3,none⟩=some (.int .u32 (f.square:Int))∧w2.drew.cell? ⟨w.heap.size,4,none⟩=some (.int .u32 (f.ahead:Int))):=hX2
          clear hs2 hB3 hX2 hq2
          have hl1:A+j<o2.length:=by have:=aa3.out;omega
          have hl2:A+h+j<o2.length:=by have:=aa3.out;omega
          have hne1:¬ A+j=A+h+j:=by omega
          have hne2:¬ A+h+j=A+j:=by omega
          obtain ⟨z,hz⟩:∃ z,(x+m)%f.p=z:=⟨_,rfl⟩
          obtain ⟨v,hv⟩:∃ v,(x+f.p-m)%f.p=v:=⟨_,rfl⟩
          have HZ:Hid (∀ W,Calls Tryz.prog 189 #[f.V,.int .u32 (x:Nat),.int .u32 (m:Nat)] W fun e w'=>e = .returned (.int .u32 (z:Nat))∧Ext W w'):=fun W=>by have:=Kh W f hf x m hx1 hx4;rwa [hz] at this
          have HV:Hid (∀ W,Calls Tryz.prog 165 #[f.V,.int .u32 (x:Nat),.int .u32 (m:Nat)] W fun e w'=>e = .returned (.int .u32 (v:Nat))∧Ext W w'):=fun W=>by have:=Dh W f hf x m hx1 hx4;rwa [hv] at this
          rw [hz,hv] at HST
          clear hz hv
          go_region_held3 (fun X=>(w.heap.size<X.heap.size∧X.cell? ⟨w.heap.size,0,none⟩=some (.int .u32 (f.p:Int))∧X.cell? ⟨w.heap.size,1,none⟩=some (.int .u32 (f.root:Int))∧X.cell? ⟨w.heap.size,2,none⟩=some (.int .u32 (f.neg:Int))∧X.cell? ⟨w.heap.size,3,none⟩=some (.int .u32 (f.square:Int))∧X.cell? ⟨w.heap.size,4,none⟩=some (.int .u32 (f.ahead:Int))))
           (first
            | exact hS1
            | assumption
            | exact OD (by assumption) (by assumption)
            | exact aot (by assumption) hwg)
           (first
            | (go_at_call 189;((with_reducible refine (HZ.out _).mono ?_);rintro e w5 ⟨rfl,dJ⟩;have hs5:=Own.ext (by assumption) dJ;have dV:=But.ext (g:=g) (by assumption) dJ;have Jw:=OD (by assumption) dJ;have Tm:=(But.ext (But.refl g _) dJ).rd (by assumption) hqg;have Po:=hs5.rd.2 (A+j) hl1;have hc6:=hs5.rd.2 (A+h+j) hl2;have hf5:=hs5.frozen' (A+j);have hf6:=hs5.frozen' (A+h+j)))
            | (go_at_call 165;((with_reducible refine (HV.out _).mono ?_);rintro e w5 ⟨rfl,dJ⟩;have hs5:=Own.ext (by assumption) dJ;have dV:=But.ext (g:=g) (by assumption) dJ;have Jw:=OD (by assumption) dJ;have Tm:=(But.ext (But.refl g _) dJ).rd (by assumption) hqg;have Po:=hs5.rd.2 (A+j) hl1;have hc6:=hs5.rd.2 (A+h+j) hl2;have hf5:=hs5.frozen' (A+j);have hf6:=hs5.frozen' (A+h+j))))
          have hs8:=(hs5.set' (A+j) z).set' (A+h+j) v
          rw [← HST.out] at hs8
          have dU:=(dV.setCell (A+j) (.int .u32 (z:Nat))).setCell (A+h+j) (.int .u32 (v:Nat))
          have fM:Bx ((w5.setCell ⟨g,A+j,none⟩ (.int .u32 (z:Nat))).setCell ⟨g,A+h+j,none⟩ (.int .u32 (v:Nat))) w.heap.size f:=(But.bx (g:=g) (by first | exact (((But.refl g w5).setCell (A+j) (.int .u32 (z:Nat))).setCell (A+h+j) (.int .u32 (v:Nat)))) Jw hwg)
          have hq8:=(((But.refl g w5).setCell (A+j) (.int .u32 (z:Nat))).setCell (A+h+j) (.int .u32 (v:Nat))).rd Tm hqg
          clear hs5 dV Tm Po hc6 hf5 hf6 HST hS1 HZ HV hso hBo hqo
          go_wp2
          go_roundw
          case rel=>exact ⟨j+1,by omega,by go_num,hs8,dU,fM,hq8⟩
          case measure=>simp [intOf];omega
        · obtain rfl:j=h:=by omega
          have hfin:Hid (IL (U8 f pw j) A j o1=mid (U8 f pw j) j (b+1) o):=by rw [Hid,mid,← HA.out,HO1.out]
          rw [hfin.out] at hown
          have hA3:Hid (A+2*j=(b+1)*(2*j)):=by rw [Hid,Nat.add_mul,Nat.one_mul,HA.out]
          clear Ro Rp HO1 P hjh
          go_wp2
          go_roundw
          case rel=>exact ⟨b+1,A+2*j,by omega,hA3,by go_num,by omega,hown,hB,HX,hq⟩
          case measure=>simp [intOf];omega
     · obtain rfl:A=n:=by omega
       have hbM:b=M:=by
        have h1:=HA.out
        have h3:=HM.out
        rcases Nat.lt_or_ge b M with hbM | hbM
        · have:=Nat.mul_lt_mul_of_pos_right hbM (show 0<2*h by omega)
          omega
        · omega
       have HD:Hid (WW f k W l (s+1) (mid (U8 f pw h) h b o)):=by
        have:=HS.out.step hf hr HP.out hs
        rw [HHH.out,HMM.out,← hbM] at this
        exact this
       generalize mid (U8 f pw h) h b o=o3 at *
       have h2n:Hid (2^(s+1)=h*2):=by rw [Hid,Nat.pow_succ,HHH.out]
       clear HA HM hlt
       go_wp2
       go_roundw
       case rel=>exact ⟨s+1,h*2,o3,by omega,by go_num,h2n,HD,hown,hB,HX,hq⟩
       case measure=>simp [intOf];omega
  · have hhn:n=h:=by rw [← HN.out,HHH.out]
    have HF:Hid (o.length=n):=by rw [Hid,HS.out.len];exact HN.out
    subst hhn
    go_wp2
    go_end0
    exact ⟨rfl,⟨o,HS.out,by rw [HF.out];exact hown⟩,hB⟩
end Go.Proofs.YtfhcmggpojhegaaGreatDoor
namespace Go.Proofs.YtfhcmggpojhegaaGreatDoor
open Go.RowKit
set_option linter.all false
set_option maxRecDepth 100000
set_option maxHeartbeats 8000000
theorem aa5:EJ F0:=by
 refine ⟨⟨by decide,by decide,by decide,by decide +kernel,by decide +kernel,by decide,by decide,by decide +kernel,by decide⟩,by decide +kernel,?_,?_⟩
 · rw [← pm_eq _ 30 _ _ (by decide +kernel)];decide +kernel
 · rw [← pm_eq _ 30 _ _ (by decide +kernel)];decide +kernel
theorem Ru:EJ F1:=by
 refine ⟨⟨by decide,by decide,by decide,by decide +kernel,by decide +kernel,by decide,by decide,by decide +kernel,by decide⟩,by decide +kernel,?_,?_⟩
 · rw [← pm_eq _ 30 _ _ (by decide +kernel)];decide +kernel
 · rw [← pm_eq _ 30 _ _ (by decide +kernel)];decide +kernel
theorem Rv:EJ F2:=by
 refine ⟨⟨by decide,by decide,by decide,by decide +kernel,by decide +kernel,by decide,by decide,by decide +kernel,by decide⟩,by decide +kernel,?_,?_⟩
 · rw [← pm_eq _ 30 _ _ (by decide +kernel)];decide +kernel
 · rw [← pm_eq _ 30 _ _ (by decide +kernel)];decide +kernel
end Go.Proofs.YtfhcmggpojhegaaGreatDoor
namespace Go.Proofs.YtfhcmggpojhegaaGreatDoor
open Go.RowKit
set_option linter.all false
set_option maxRecDepth 100000
set_option maxHeartbeats 8000000
attribute [local go_sem ↓] fU
attribute [local go_sem] bY
theorem ajg (w:World) (f:Fd) (hf:Good f) (k W n:Nat) (l pw:List Nat) (g q c base:Nat) (hn:2^k=n) (hk:k≤20) (hr:Rt f.p W k) (hp:Pw f k W pw)
  (hl:l.length=2^k) (hlt:∀ x∈l,x<f.p) (hown:Own w base (.slice (some ⟨g,0,none⟩) n c) l) (hq:Rd w q pw) (hqg:q≠g) :
  Calls Tryz.prog 159 #[f.V,.slice (some ⟨g,0,none⟩) n c,.slice (some ⟨q,0,none⟩) pw.length pw.length] w fun e w'=>e = .returned (.tuple #[])∧(∃ o,oL f k W l 0 o∧Own w' base (.slice (some ⟨g,0,none⟩) n c) o)∧But g w w':=by
 have e:n=l.length:=by rw [hl,hn]
 subst e
 exact (down_calls w f hf k W l pw g q c base hk hr hp hl hlt hown hq hqg).mono fun e w' ⟨h1,⟨o,h2,h3⟩,h4⟩=>⟨h1,⟨o,h2,by rw [show o.length=l.length by rw [h2.len,hl]] at h3;exact h3⟩,h4⟩
theorem aum (w:World) (f:Fd) (hf:Good f) (k W n:Nat) (l pw:List Nat) (g q c base:Nat) (hn:2^k=n) (hk:k≤20) (hr:Rt f.p W k) (hp:Pw f k W pw)
  (hl:l.length=2^k) (hlt:∀ x∈l,x<f.p) (hown:Own w base (.slice (some ⟨g,0,none⟩) n c) l) (hq:Rd w q pw) (hqg:q≠g) :
  Calls Tryz.prog 161 #[f.V,.slice (some ⟨g,0,none⟩) n c,.slice (some ⟨q,0,none⟩) pw.length pw.length] w fun e w'=>e = .returned (.tuple #[])∧(∃ o,WW f k W l k o∧Own w' base (.slice (some ⟨g,0,none⟩) n c) o)∧But g w w':=by
 have e:n=l.length:=by rw [hl,hn]
 subst e
 exact (aa4 w f hf k W l pw g q c base hk hr hp hl hlt hown hq hqg).mono fun e w' ⟨h1,⟨o,h2,h3⟩,h4⟩=>⟨h1,⟨o,h2,by rw [show o.length=l.length by rw [h2.len,hl]] at h3;exact h3⟩,h4⟩
end Go.Proofs.YtfhcmggpojhegaaGreatDoor
namespace Go.Proofs.YtfhcmggpojhegaaGreatDoor
open Go.ChangeShapes Go.WideShapes Go.ChangeAt Go.RowKit
set_option linter.all false
set_option maxRecDepth 100000
set_option maxHeartbeats 8000000
theorem laidOut:laidOutB Tryz.prog=true:=by kernel_rfl
theorem rD:Tryz.prog.cellsOf 27 = 1:=by kernel_rfl
theorem Uk:Tryz.prog.cellsOf 151 = 5:=by kernel_rfl
theorem aa6:Tryz.prog.cellsOf 152 = 15:=by kernel_rfl
theorem aun:Tryz.prog.globalNamed "ziggurat/ntt.fields" = some 0:=by kernel_rfl
theorem auo:(Tryz.prog.globals[0]?).map (·.type)=some 152 := by kernel_rfl
theorem zo {H:Type} {enc:TypeId × Value→H} {W:World} {sp:Nat→Bool} {held:Bool} {m:Nat} {cs:List Value} {y:DataW H × List MemPlace}
  (h:DataW.trod enc Tryz.prog W 0 sp held m 151 cs=some y):∃ a b c d e:Int,cs=[.int .u32 a,.int .u32 b,.int .u32 c,.int .u32 d,.int .u32 e]∧y.1 = .agg [.lit (.int .u32 a),.lit (.int .u32 b),.lit (.int .u32 c),.lit (.int .u32 d),.lit (.int .u32 e)]:=by
 obtain ⟨ys,n,_,rfl,hl,hlen,hf⟩:=DataW.trod_struct Tryz.underlying151 h
 rw [Uk] at hl
 match cs,hl,ys,hlen,hf with
 | [c0,c1,c2,c3,c4],_,[y0,y1,y2,y3,y4],_,hf =>
  have h0:=hf 0 _ rfl
  have h1:=hf 1 _ rfl
  have h2:=hf 2 _ rfl
  have h3:=hf 3 _ rfl
  have h4:=hf 4 _ rfl
  simp [rD] at h0 h1 h2 h3 h4
  obtain ⟨a,e0,rfl,_⟩:=DataW.trod_int Tryz.underlying27 h0
  obtain ⟨b,e1,rfl,_⟩:=DataW.trod_int Tryz.underlying27 h1
  obtain ⟨c,e2,rfl,_⟩:=DataW.trod_int Tryz.underlying27 h2
  obtain ⟨d,e3,rfl,_⟩:=DataW.trod_int Tryz.underlying27 h3
  obtain ⟨e,e4,rfl,_⟩:=DataW.trod_int Tryz.underlying27 h4
  simp at e0 e1 e2 e3 e4
  subst e0 e1 e2 e3 e4
  exact ⟨a,b,c,d,e,rfl,rfl⟩
theorem fD {H:Type} {enc:TypeId × Value→H} {W W':World} {sp:Nat→Bool} (hB:Ext W W'):∀ {ts:List TypeId} {vs:List Value} {ds:List (DataW H)} {ps:List MemPlace},
  (∀ t∈ts,Tryz.prog.readableRec t=true∧t<Tryz.prog.types.size)→DataW.TrodAll enc Tryz.prog W 0 (fun _=>true) true ts vs ds ps→(∀ p∈ps,p.block<W.heap.size)→(∀ p∈ps,sp p.block=true)→DataW.TrodAll enc Tryz.prog W' 0 sp true ts vs ds ps
 | [],[],[],_,_,h,_,_=>h
 | t::_,_::_,_::_,_,hT,⟨p,q,h1,h2,e⟩,hlt,hs=>⟨p,q,
  WideElems.Trod_stays laidOut (hT t (List.mem_cons_self ..)).1 (hT t (List.mem_cons_self ..)).2 h1 (fun x hx=>Below.same hB (hlt x (by rw [e];exact List.mem_append_left _ hx))) (fun x hx=>hs x (by rw [e];exact List.mem_append_left _ hx)),
  fD hB (fun t ht=>hT t (List.mem_cons_of_mem _ ht)) h2 (fun x hx=>hlt x (by rw [e];exact List.mem_append_right _ hx)) (fun x hx=>hs x (by rw [e];exact List.mem_append_right _ hx)),e⟩
theorem qc {H:Type} {enc:TypeId × Value→H} {f:Func} {s:ChangeSpec} {apart fresh handsOn again:Bool} {W W':World} {args:Array Value} {ds gs:List (DataW H)} {before:List MemPlace}
  (hW:DataW.Whole enc Tryz.prog f.params.toList s.vars apart W args.toList ds gs before) (hv:s.vars=[]) (hT:∀ t∈f.params.toList,Tryz.prog.readableRec t=true∧t<Tryz.prog.types.size)
  (hres:f.resultTypes=#[4]) (hfn:(s.fn H (ds++gs)).results=[.lit (.bool true)]) (hfa:(s.fn H (ds++gs)).args=ds) (Xe:(s.fn H (ds++gs)).vars=[]) (hB:Ext W W') :
  s.post enc Tryz.prog f apart fresh handsOn again W args (.bool true) W':=by
 have hlt:∀ p∈before,p.block<W.heap.size:=fun p hp=>hW.lt p hp
 have hold:∀ p∈before,(fun b=>decide (b<W.heap.size)) p.block=true:=fun p hp=>by simpa using hlt p hp
 have hres':∀ (b:Nat) (sp:Nat→Bool) (hd:Bool),DataW.TrodAll enc Tryz.prog W' b sp hd f.resultTypes.toList ((Value.bool true).resultList f.resultTypes.size) (s.fn H (ds++gs)).results []:=by
  intro b sp hd
  rw [hres,hfn]
  exact trodAll_mk1 (shut_bool Tryz.underlying4 _)
 have hW2:=hW
 obtain ⟨p,q,hA,hV,hpq,hz,hn⟩:=hW
 rw [hv] at hV
 obtain ⟨_,rfl⟩:=trodVars_none hV
 rw [List.append_nil] at hpq
 subst hpq
 have hargs:∀ sp:Nat→Bool,(∀ p'∈before,sp p'.block=true)→DataW.TrodAll enc Tryz.prog W' 0 sp true f.params.toList args.toList (s.fn H (ds++gs)).args before:=fun sp hs=>by
  rw [hfa];exact fD hB hT hA hlt hs
 have hvars:∀ sp:Nat→Bool,DataW.TrodVars enc Tryz.prog W' sp s.vars (s.fn H (ds++gs)).vars []:=fun sp=>by rw [hv,Xe];exact rfl
 refine ⟨ds,gs,before,[],before,[],hW2,hres' _ _ _,hargs _ hold,hvars _,World.keptBut_mono (fun p hp=>⟨hp,?_⟩) (Below.frame hB (·∈before)),fun _=>?_⟩
 · simpa using hp
 · refine ⟨ok_one hres rfl (okWide_bool_mk Tryz.underlying4 _),_,_,([]++before)++[],⟨[]++before,[],trodAll_append (hargs _ (fun _ _=>rfl)) (hres' _ _ _),hvars _,rfl,?_,?_⟩,?_⟩
   · intro b off hp
     have hin:MemPlace.cell b off∈before:=by simpa using hp
     rw [Below.frozen hB (hlt _ hin)]
     exact hz b off hin
   · intro ha
     have:=hn ha
     simpa using this
   · intro p hp _
     simpa using hp
end Go.Proofs.YtfhcmggpojhegaaGreatDoor
namespace Go.Proofs.YtfhcmggpojhegaaGreatDoor
open Go.ChangeShapes Go.WideShapes Go.ChangeAt Go.RowKit
set_option linter.all false
set_option maxRecDepth 100000
set_option maxHeartbeats 8000000
theorem fC {H:Type} {enc:TypeId × Value→H} {W:World} {fuel:Nat} {v:Value} {y:DataW H × List MemPlace} (hf:DataW.trod enc Tryz.prog W 0 (fun _=>true) true fuel 22 [v]=some y) :
  ∃ xs:List Nat,U W v xs:=by
 rcases open_ints Tryz.underlying22 Tryz.underlying27 rD hf with ⟨hcs,hx⟩ | ⟨a,len,cap',zs,hcs,_,hl,hm,hz,hx,hcell,hwz⟩
 · simp at hcs
   subst hcs
   exact ⟨[],U.Eo _ _ _⟩
 · simp at hcs
   subst hcs
   simp only [if_true] at hz
   have hlen:((zs.take len).map Int.toNat).length=len:=by simp;omega
   have hb:∀ z∈zs,0≤z∧z<4294967296:=fun z hzz=>by have:=bounds_u32 (hwz z hzz);omega
   refine ⟨(zs.take len).map Int.toNat,some a,cap',by rw [hlen],⟨by rw [hlen];exact hl,by rw [hlen];unfold maxLen at hm;omega⟩,?_,fun h0=>⟨a,rfl,?_,fun j hj=>?_⟩⟩
   · intro x hx'
     obtain ⟨z,hz1,rfl⟩:=List.mem_map.1 hx'
     have:=hb z (List.mem_of_mem_take hz1)
     omega
   · rw [hlen] at h0
     have hc:=hcell 0 (by omega)
     rw [gN] at hc
     unfold World.cell? at hc
     rcases Nat.lt_or_ge a.block W.heap.size with h | h
     · exact h
     · rw [Array.getElem?_eq_none h] at hc;cases hc
   · rw [hlen] at hj
     have hjz:j<zs.length:=by omega
     have e:lb ((zs.take len).map Int.toNat) j=(zs.getD j 0).toNat:=by
      simp [lb,hj,hjz]
     rw [hcell j hjz,e]
     have hmem:zs.getD j 0∈zs:=by simp [hjz]
     have:=hb _ hmem
     rw [show (((zs.getD j 0).toNat:Nat):Int)=zs.getD j 0 by omega]
end Go.Proofs.YtfhcmggpojhegaaGreatDoor
namespace Go.Proofs.YtfhcmggpojhegaaGreatDoor
set_option linter.all false
set_option maxRecDepth 100000
set_option maxHeartbeats 8000000
theorem Ul (w:Int) (n:Nat) (c:Int) (a:Nat→Int) (q:Nat):uX w n (fun i=>c*a i) q=c*uX w n a q:=by
 unfold uX;rw [← Di];exact gp fun i _=>Int.mul_assoc _ _ _
theorem aeo {p w:Int} {n:Nat} {a b:Nat→Int} {q:Nat} (h:∀ i,i<n→dx p (a i) (b i)):dx p (uX w n a q) (uX w n b q):=dx.sm fun i hi=>(h i hi).mul (dx.refl _ _)
theorem mul_pow (a b:Int) (n:Nat):(a*b)^n=a^n*b^n:=by
 induction n with
 | zero=>simp
 | succ n ih=>rw [Int.pow_succ,Int.pow_succ,Int.pow_succ,ih];grind
theorem aa7 {p w v:Int} {k:Nat} (hw:Rt p w k) (hv:Rt p v k) (hwv:dx p (w*v) 1) (l:Nat→Int) (t:Nat) (ht:t<2^k) :
  dx p (uX v (2^k) (fun j=>uX w (2^k) l j) t) ((2^k:Nat)*l t):=by
 have e1:uX v (2^k) (fun j=>uX w (2^k) l j) t=sm (2^k) fun i=>l i*sm (2^k) fun j=>(w^i*v^t)^j:=by
  unfold uX
  rw [gp (g:=fun j=>sm (2^k) fun i=>l i*(w^i*v^t)^j) (fun j _=>by
   rw [← BC];exact gp fun i _=>by rw [mul_pow,← Int.pow_mul,← Int.pow_mul,Int.mul_assoc,Nat.mul_comm t j])]
  rw [Uj]
  exact gp fun i _=>Di _ _ _
 rw [e1]
 have hp:∀ m,dx p (w^m*v^m) 1:=fun m=>by rw [← mul_pow];have:=hwv.pow m;rwa [Int.one_pow] at this
 have key:∀ i,i<2^k→dx p (l i*sm (2^k) fun j=>(w^i*v^t)^j) (if i=t then (2^k:Nat)*l t else 0):=by
  intro i hi
  by_cases e:i=t
  · subst e
    rw [if_pos rfl,Int.mul_comm]
    refine dx.mul ?_ (dx.refl _ _)
    refine (dx.sm (g:=fun _=>1) fun j _=>?_).trans (dx.of_eq ?_)
    · have:=(hp i).pow j;rwa [Int.one_pow] at this
    · rw [aaT,Int.mul_one]
  · rw [if_neg e]
    have h0:dx p (sm (2^k) fun j=>(w^i*v^t)^j) 0:=by
     rcases Nat.lt_or_ge t i with h | h
     · have e2:dx p (w^i*v^t) (w^(i-t)):=by
        rw [show w^i=w^(i-t)*w^t by rw [← Int.pow_add];congr 1;omega,Int.mul_assoc]
        have:=(dx.refl p (w^(i-t))).mul (hp t);rwa [Int.mul_one] at this
       refine (dx.sm fun j _=>e2.pow j).trans (geo p w k (i-t) hw ?_)
       intro hd
       have:=Nat.le_of_dvd (by omega) hd
       omega
     · have e2:dx p (w^i*v^t) (v^(t-i)):=by
        rw [show v^t=v^i*v^(t-i) by rw [← Int.pow_add];congr 1;omega,← Int.mul_assoc]
        have:=(hp i).mul (dx.refl p (v^(t-i)));rwa [Int.one_mul] at this
       refine (dx.sm fun j _=>e2.pow j).trans (geo p v k (t-i) hv ?_)
       intro hd
       have:=Nat.le_of_dvd (by omega) hd
       omega
    have:=(dx.refl p (l i)).mul h0
    rwa [Int.mul_zero] at this
 refine (dx.sm key).trans (dx.of_eq ?_)
 rw [aen _ _ t ht (fun i _ hne=>by rw [if_neg hne]),if_pos rfl]
theorem Rw {p w:Int} {n:Nat} (hw:dx p (w^n) 1) (a b:Nat→Int) (q:Nat) :
  dx p (uX w n a q*uX w n b q) (uX w n (fun k=>sm n fun t=>a t*b ((k+n-t)%n)) q):=by
 have e1:uX w n a q*uX w n b q=sm n fun t=>a t*w^(t*q)*uX w n b q:=by
  rw [BC];rfl
 have e2:uX w n (fun k=>sm n fun t=>a t*b ((k+n-t)%n)) q=sm n fun t=>a t*w^(t*q)*0+a t*sm n fun k=>b ((k+n-t)%n)*w^(k*q):=by
  unfold uX
  rw [gp (g:=fun k=>sm n fun t=>a t*(b ((k+n-t)%n)*w^(k*q))) (fun k _=>by rw [← BC];exact gp fun t _=>Int.mul_assoc _ _ _)]
  rw [Uj]
  exact gp fun t _=>by rw [Di,Int.mul_zero,Int.zero_add]
 rw [e1,e2]
 refine dx.sm fun t ht=>?_
 rw [Int.mul_zero,Int.zero_add,Int.mul_assoc]
 refine (dx.refl p (a t)).mul ?_
 -- the places from t on stand first
 have hs:sm n (fun k=>b ((k+n-t)%n)*w^(k*q))=sm t (fun k=>b (k+(n-t))*w^(k*q))+sm (n-t) (fun i=>b i*w^((t+i)*q)):=by
  have hn:n=t+(n-t):=by omega
  conv=>lhs;rw [hn]
  rw [BF]
  rw [← hn]
  congr 1
  · exact gp fun k hk=>by rw [show k+n-t=k+(n-t) by omega,Nat.mod_eq_of_lt (by omega)]
  · exact gp fun i hi=>by rw [show t+i+n-t=i+n by omega,Nat.add_mod_right,Nat.mod_eq_of_lt (by omega)]
 have hd:w^(t*q)*uX w n b q=sm (n-t) (fun i=>b i*w^((t+i)*q))+sm t (fun k=>b (n-t+k)*w^((n+k)*q)):=by
  unfold uX
  rw [← Di]
  have hn:n=(n-t)+t:=by omega
  conv=>lhs;rw [hn]
  rw [BF]
  congr 1
  · exact gp fun i hi=>by
     rw [show w^(t*q)*(b i*w^(i*q))=b i*(w^(t*q)*w^(i*q)) by grind,← Int.pow_add,Nat.add_mul]
  · exact gp fun i hi=>by
     rw [show w^(t*q)*(b (n-t+i)*w^((n-t+i)*q))=b (n-t+i)*(w^(t*q)*w^((n-t+i)*q)) by grind,← Int.pow_add,← Nat.add_mul,show t+(n-t+i)=n+i by omega]
 rw [hs,hd,Int.add_comm]
 refine dx.add (dx.sm fun k hk=>?_) (dx.refl _ _)
 rw [Nat.add_comm k]
 refine (dx.refl p _).mul ?_
 rw [Nat.add_mul,Nat.add_comm]
 exact oG hw _ _
end Go.Proofs.YtfhcmggpojhegaaGreatDoor
namespace Go.Proofs.YtfhcmggpojhegaaGreatDoor
open Go.RowKit
set_option linter.all false
set_option maxRecDepth 100000
set_option maxHeartbeats 8000000
theorem aou (f:Fd) (hf:Good f) (n:Nat) (l:List Nat):∀ x∈ml f n l,x<f.p:=by
 intro x hx
 obtain ⟨q,_,rfl⟩:=List.mem_map.1 hx
 exact pg f hf _
theorem Ig (w:World) (f:Fd) (hf:Good f) (k n W Bn Bf Bq q:Nat) (pw:List Nat) (hn:2^k=n) (hk:k≤20) (hr:Rt f.p W k) (hp:Pw f k W pw) (hq:Rd w q pw)
  (h1:Bn<w.heap.size∧w.cell? ⟨Bn,0,none⟩=some (.int .i64 (n:Nat))) (h2:Bx w Bf f) (h3:Bq<w.heap.size∧w.cell? ⟨Bq,0,none⟩=some (.slice (some ⟨q,0,none⟩) pw.length pw.length))
  (v:Value) (l:List Nat) (hu:U w v l) (hl:l.length≤n) :
  Calls Tryz.prog 157 #[v,.pointer (some ⟨Bn,0,none⟩),.pointer (some ⟨Bf,0,none⟩),.pointer (some ⟨Bq,0,none⟩)] w fun e w'=>(∃ g o,e = .returned (.slice (some ⟨g,0,none⟩) n n)∧oL f k W (ml f n l) 0 o∧Own w' w.heap.size (.slice (some ⟨g,0,none⟩) n n) o)∧Ext w w':=by
 have p0:=hf.p0
 have p1:=hf.p1
 have hn1:n≤1048576:=by rw [← hn];exact Nat.pow_le_pow_right (by decide) hk
 have hn0:0<n:=by rw [← hn];exact Nat.two_pow_pos k
 obtain ⟨A,c,rfl,⟨hc1,hc2⟩,hx,hrd⟩:=id hu
 have HN:=Lib.hid hn
 obtain ⟨i0,hi,hz0,hz1,hz2⟩:=info_parts pR
 obtain ⟨hn3,hn4⟩:=h1
 obtain ⟨hq3,hq4⟩:=h3
 clear hn
 obtain ⟨L,hLL⟩:∃ L,l.length=L:=⟨_,rfl⟩
 have HL:=Lib.hid hLL
 rw [hLL] at hl hc1 hc2 hu hrd ⊢
 clear hLL
 go_enter Tryz.func157,Tryz.ntmps157
 go_wp2_with (at_make;refine wpList_make_full _ rfl _ _ 22 rfl w.heap.size 27 i0 (.int .u32 0) 1 Tryz.underlying22 hi hz0 hz1 _ _ _ _ n rfl rfl (by omega) (by omega) (by rw [hz2];omega) (by unfold maxLen;omega) (by simp) ?_;intro w1 hown hgrow)
 have ho0:=Own.zeros hown
 have hB0:Ext w w1:=(Ext.refl w).grown hgrow (by simp) (fun _ h=>by cases h)
 clear hown hgrow
 rw [List.length_replicate] at ho0
 clear hi hz0 hz1 hz2 i0 hu
 go_loopw [13] (fun t wr=>∃ (j:Nat) (o:List Nat),j≤L∧t = .int .i64 (j:Nat)∧Hid (MlI f n l j o)∧Own wr w.heap.size (.slice (some ⟨w.heap.size,0,none⟩) n n) o∧Ext w wr) (fun t _=>L-(intOf t).toNat)
 case atStart=>exact ⟨0,_,Nat.zero_le _,rfl,MlI.start f hf n l,ho0,hB0⟩
 case round =>
  clear ho0 hB0
  obtain ⟨j,o,hj,rfl,HO,hown,hE⟩:=hrel
  by_cases hlt:j<L
  · obtain ⟨ad,rfl,hb,hcell⟩:=hrd (by omega)
    have hc1:=(hE.cell (p:=ad.add j) (by rw [aJ];exact hb)).trans (hcell j hlt)
    have HST:=Lib.hid (HO.out.step hf (j:=j) (by omega))
    have hx1:=eU hx j
    obtain ⟨b0,b1,b2,b3,b4,b5⟩:=h2.ext hE
    generalize lb l j=x at *
    have hj0:(0:Int)≤(j:Int):=by omega
    have hj1:(j:Int)<(L:Int):=by omega
    have hj2:(j:Int)<(n:Int):=by omega
    have Ea:=HO.out.len
    clear hrd hcell hn4 hq4 HO
    go_wp2_with (fail)
    refine (wM _ f hf x hx1).mono ?_
    rintro e w3 ⟨rfl,hB3⟩
    have hm:=pg f hf x
    replace hown:=hown.ext hB3
    replace hE:=hE.below hB3
    have hs:=hown.set' j (fG f x)
    have hfr:=Own.frozen (c:=n) (by rw [Ea];exact hown) j
    have hcl:=Own.cell (c:=n) (j:=j) (by rw [Ea];exact hown) (by omega)
    have hE2:Ext w (w3.setCell ⟨w.heap.size,j,none⟩ (.int .u32 (fG f x:Nat))):=hE.setCell (by simp) _
    generalize fG f x=Y at *
    clear b0 b1 b2 b3 b4 b5 hown hE hc1 hB3
    go_wp2_with (fail)
    go_roundw
    case rel=>exact ⟨j+1,_,by omega,by go_num,HST,hs,hE2⟩
    case measure=>simp [intOf];omega
  · obtain rfl:j=L:=by omega
    have HD:=HO.out
    rw [← HL.out] at HD
    have hd:=HD.done
    subst hd
    obtain ⟨b0,b1,b2,b3,b4,b5⟩:=h2.ext hE
    have Tm:=(hE.cell hq3).trans hq4
    have hq6:Rd wr q pw:=((But.refl w.heap.size w).ext hE).rd hq (by have:=hq.1;omega)
    have hqg:q≠w.heap.size:=by have:=hq.1;omega
    clear hrd hn4 hq4 HO hlt
    go_wp2_with (fail)
    refine (ajg _ f hf k W n (ml f n l) pw w.heap.size q n w.heap.size HN.out hk hr hp (by rw [Yq,HN.out]) (aou f hf n l) hown hq6 hqg).mono ?_
    rintro e w5 ⟨rfl,⟨o5,hd5,Wv⟩,dJ⟩
    have bu:=hE.trans (dJ.below (B:=w.heap.size) (Nat.le_refl _) (Nat.le_trans hE.size (Nat.le_refl _)))
    have HD5:=Lib.hid hd5
    clear hd5 b0 b1 b2 b3 b4 b5 dJ hE Tm hq6
    go_wp2
    go_ret
    exact ⟨⟨_,o5,rfl,HD5.out,Wv⟩,bu⟩
end Go.Proofs.YtfhcmggpojhegaaGreatDoor
namespace Go.Proofs.YtfhcmggpojhegaaGreatDoor
open Go.RowKit
set_option linter.all false
set_option maxRecDepth 100000
set_option maxHeartbeats 8000000
theorem aov (a b:List Nat) (i m:Nat):((cv a b i m:Nat):Int)=sm i fun t=>if t≤m then seq a t*seq b (m-t) else 0:=by
 induction i with
 | zero=>rfl
 | succ i ih =>
  rw [cv,iQ,← ih,Int.natCast_add]
  congr 1
  split
  · rw [Int.natCast_mul];rfl
  · rfl
theorem Ww (a b:List Nat) (n j:Nat) (hj:j<n) (ha:a.length≤n) (hab:a.length+b.length≤n+1) :
  sm n (fun t=>seq a t*seq b ((j+n-t)%n))=((cv a b a.length j:Nat):Int):=by
 obtain ⟨r,hr⟩:∃ r,n=a.length+r:=⟨n-a.length,by omega⟩
 have e1:sm n (fun t=>seq a t*seq b ((j+n-t)%n))=sm (a.length+r) (fun t=>seq a t*seq b ((j+n-t)%n)):=by rw [← hr]
 rw [e1,BF,aov]
 have e2:sm r (fun i=>seq a (a.length+i)*seq b ((j+n-(a.length+i))%n))=0:=by
  rw [← Dg r]
  refine gp fun i _=>?_
  rw [show seq a (a.length+i)=0 from by unfold seq;rw [K9 a _ (by omega)];rfl,Int.zero_mul]
 rw [e2,Int.add_zero]
 refine gp fun t ht=>?_
 by_cases c:t≤j
 · rw [if_pos c,show j+n-t=(j-t)+n by omega,Nat.add_mod_right,Nat.mod_eq_of_lt (by omega)]
 · rw [if_neg c,Nat.mod_eq_of_lt (by omega)]
   rw [show seq b (j+n-t)=0 from by unfold seq;rw [K9 b _ (by omega)];rfl,Int.mul_zero]
theorem Rx (f:Fd) (x y:Nat):dx (f.p:Int) ((mm f x y:Nat):Int) ((x:Int)*(y:Int)*(f.ri:Int)):=by
 unfold mm
 refine (dx.jX _ _).trans (dx.of_eq ?_)
 rw [Int.natCast_mul,Int.natCast_mul]
theorem ajj (f:Fd) (hf:Good f):dx (f.p:Int) ((f.ri:Int)*4294967296) 1:=by
 have h:=hf.ri
 have:=tZ (p:=f.p) (a:=f.ri*4294967296) (b:=1) (by rw [h,Nat.mod_eq_of_lt hf.p0])
 rwa [Int.natCast_mul] at this
theorem Wx {f:Fd} (F:EJ f) {k n:Nat} (hk:k≤20) (hn:2^k=n) (a b:List Nat) (ha:a.length≤n) (hab:a.length+b.length≤n+1) {x y z u r:List Nat}
  (hx:oL f k (rt f k) (ml f n a) 0 x) (hy:oL f k (rt f k) (ml f n b) 0 y) (hz:∀ q,q<n→lb z q=mm f (lb x q) (lb y q)) (hu:WW f k (bt f k) z k u)
  (hr:∀ q,q<n→lb r q=mm f (lb u q) (sh f n%f.p)) (j:Nat) (hj:j<n):dx (f.p:Int) ((lb r j:Nat):Int) ((cv a b a.length j:Nat):Int):=by
 have hG:=F.good
 subst hn
 have hri:=ajj f hG
 have hw:=F.rt hk
 have hv:=F.bt hk
 have one:∀ (l o:List Nat),oL f k (rt f k) (ml f (2^k) l) 0 o→∀ q,q<2^k→dx (f.p:Int) (seq o q) (4294967296*uX ((rt f k:Nat):Int) (2^k) (seq l) (rev k q)):=by
  intro l o h q hq
  refine (h.down.done q hq).trans ?_
  rw [← Ul]
  refine aeo fun i hi=>?_
  unfold seq
  rw [afA f _ l i hi]
  unfold fG
  refine (dx.jX _ _).trans (dx.of_eq ?_)
  rw [Int.natCast_mul,Int.mul_comm];rfl
 have hzq:∀ q,q<2^k→dx (f.p:Int) (seq z q) (4294967296*uX ((rt f k:Nat):Int) (2^k) (fun q=>sm (2^k) fun t=>seq a t*seq b ((q+2^k-t)%2^k)) (rev k q)):=by
  intro q hq
  have h0:seq z q=((mm f (lb x q) (lb y q):Nat):Int):=by unfold seq;rw [hz q hq]
  rw [h0]
  have h1:=(one a x hx q hq).mul (one b y hy q hq)
  have h2:=Rw hw.1 (seq a) (seq b) (rev k q)
  refine (Rx f _ _).trans ((h1.mul (dx.refl _ (f.ri:Int))).trans ?_)
  generalize uX ((rt f k:Nat):Int) (2^k) (seq a) (rev k q)=A at *
  generalize uX ((rt f k:Nat):Int) (2^k) (seq b) (rev k q)=B at *
  refine dx.trans ?_ ((dx.refl _ (4294967296:Int)).mul h2)
  have h3:=hri.mul (dx.refl (f.p:Int) (4294967296*(A*B)))
  rw [Int.one_mul] at h3
  refine dx.trans (dx.of_eq ?_) h3
  grind
 have huq:dx (f.p:Int) (seq u j) (4294967296*(((2^k:Nat):Int)*sm (2^k) fun t=>seq a t*seq b ((j+2^k-t)%2^k))):=by
  refine (hu.up.done j hj).trans ?_
  refine (dx.sm fun t ht=>(hzq t ht).mul (dx.refl _ _)).trans ?_
  rw [ajb k (fun t=>4294967296*uX ((rt f k:Nat):Int) (2^k) (fun q=>sm (2^k) fun t=>seq a t*seq b ((q+2^k-t)%2^k)) t*((bt f k:Nat):Int)^(j*t))]
  have e:(sm (2^k) fun t=>4294967296*uX ((rt f k:Nat):Int) (2^k) (fun q=>sm (2^k) fun t=>seq a t*seq b ((q+2^k-t)%2^k)) t*((bt f k:Nat):Int)^(j*t))=uX ((bt f k:Nat):Int) (2^k) (fun t=>4294967296*uX ((rt f k:Nat):Int) (2^k) (fun q=>sm (2^k) fun t=>seq a t*seq b ((q+2^k-t)%2^k)) t) j:=by
   unfold uX
   exact gp fun t _=>by rw [Nat.mul_comm j t]
  rw [e,Ul]
  exact (dx.refl _ _).mul (aa7 hw hv (F.wv k) _ j hj)
 rw [hr j hj,← Ww a b (2^k) j hj ha hab]
 refine (Rx f _ _).trans ?_
 have h1:=huq.mul (dx.jX f.p (sh f (2^k)))
 refine (h1.mul (dx.refl _ (f.ri:Int))).trans ?_
 generalize (sm (2^k) fun t=>seq a t*seq b ((j+2^k-t)%2^k))=C at *
 have h3:=(hri.mul (F.share k)).mul (dx.refl (f.p:Int) C)
 rw [Int.one_mul,Int.one_mul] at h3
 refine dx.trans (dx.of_eq ?_) h3
 grind
end Go.Proofs.YtfhcmggpojhegaaGreatDoor
namespace Go.Proofs.YtfhcmggpojhegaaGreatDoor
open Go.RowKit
set_option linter.all false
set_option maxRecDepth 100000
set_option maxHeartbeats 8000000
theorem oO {x y:World} {B Bn:Nat} {v:Value} {f:Fd} (h:(B<x.heap.size∧x.cell? ⟨B,0,none⟩=some (.int .u32 (f.p:Int))∧x.cell? ⟨B,1,none⟩=some (.int .u32 (f.root:Int))∧x.cell? ⟨B,2,none⟩=some (.int .u32 (f.neg:Int))∧x.cell? ⟨B,3,none⟩=some (.int .u32 (f.square:Int))∧x.cell? ⟨B,4,none⟩=some (.int .u32 (f.ahead:Int)))∧x.cell? ⟨Bn,0,none⟩=some v) (hB:Ext x y) :
  (B<y.heap.size∧y.cell? ⟨B,0,none⟩=some (.int .u32 (f.p:Int))∧y.cell? ⟨B,1,none⟩=some (.int .u32 (f.root:Int))∧y.cell? ⟨B,2,none⟩=some (.int .u32 (f.neg:Int))∧y.cell? ⟨B,3,none⟩=some (.int .u32 (f.square:Int))∧y.cell? ⟨B,4,none⟩=some (.int .u32 (f.ahead:Int)))∧y.cell? ⟨Bn,0,none⟩=some v :=
 ⟨Bx.ext (f:=f) h.1 hB,(hB.cell (p:=⟨Bn,0,none⟩) (World.block_lt_of_cell? x _ h.2)).trans h.2⟩
theorem L9 {x:World} {B Bn Bq:Nat} {v u:Value} {f:Fd} (h:(B<x.heap.size∧x.cell? ⟨B,0,none⟩=some (.int .u32 (f.p:Int))∧x.cell? ⟨B,1,none⟩=some (.int .u32 (f.root:Int))∧x.cell? ⟨B,2,none⟩=some (.int .u32 (f.neg:Int))∧x.cell? ⟨B,3,none⟩=some (.int .u32 (f.square:Int))∧x.cell? ⟨B,4,none⟩=some (.int .u32 (f.ahead:Int)))∧x.cell? ⟨Bn,0,none⟩=some v) (h1:B≠Bq) (h2:Bn≠Bq) :
  (B<(x.setCell ⟨Bq,0,none⟩ u).heap.size∧(x.setCell ⟨Bq,0,none⟩ u).cell? ⟨B,0,none⟩=some (.int .u32 (f.p:Int))∧(x.setCell ⟨Bq,0,none⟩ u).cell? ⟨B,1,none⟩=some (.int .u32 (f.root:Int))∧(x.setCell ⟨Bq,0,none⟩ u).cell? ⟨B,2,none⟩=some (.int .u32 (f.neg:Int))∧(x.setCell ⟨Bq,0,none⟩ u).cell? ⟨B,3,none⟩=some (.int .u32 (f.square:Int))∧(x.setCell ⟨Bq,0,none⟩ u).cell? ⟨B,4,none⟩=some (.int .u32 (f.ahead:Int)))∧(x.setCell ⟨Bq,0,none⟩ u).cell? ⟨Bn,0,none⟩=some v :=
 ⟨((But.refl Bq x).setCell 0 u).bx (f:=f) h.1 h1,(((But.refl Bq x).setCell 0 u).cell (p:=⟨Bn,0,none⟩) (World.block_lt_of_cell? x _ h.2) h2).trans h.2⟩
theorem Kj {x y:World} {v:Value} {t:TypeId} (hB:Ext (x.alloc (.cells #[v] t)) y):y.cell? ⟨x.heap.size,0,none⟩=some v :=
 (hB.cell (p:=⟨x.heap.size,0,none⟩) (by simp)).trans (by go_simp)
theorem Kk {x y:World} {v:Value} {t:TypeId} (hB:Ext (x.alloc (.cells #[v] t)) y):y.frozen? ⟨x.heap.size,0,none⟩=false :=
 (hB.frozen (p:=⟨x.heap.size,0,none⟩) (by simp)).trans (by go_simp)
theorem Kl {x y:World} {v:Value} {t:TypeId} (hB:Ext (x.alloc (.cells #[v] t)) y):x.heap.size<y.heap.size:=by
 have:=hB.size;simp at this;omega
theorem OE {x:World} {p:Addr} {u v:Value} (h:x.cell? p=some u):(x.setCell p v).cell? p=some v:=by
 go_simp
theorem jH {x y:World} {p:Addr} {v:Value} (hB:Ext x y) (h:x.cell? p=some v):y.cell? p=some v:=(hB.cell (World.block_lt_of_cell? x _ h)).trans h
theorem xE {x y:World} {p:Addr} {v:Value} (hB:Ext x y) (h:x.cell? p=some v) (g:x.frozen? p=false):y.frozen? p=false:=(hB.frozen (World.block_lt_of_cell? x _ h)).trans g
theorem wN (w : World) (f : Fd) (F : EJ f) (k n : Nat) (hn : 2 ^ k=n) (hk:k≤16) (va vb:Value) (a b:List Nat) (AP:U w va a) (hub:U w vb b)
  (ha:a.length≤n) (hb:b.length≤n) (hab:a.length+b.length≤n+1) :
  Calls Tryz.prog 111 #[f.V,va,vb,.int .i64 (k:Nat)] w fun e w'=>(∃ u r,e = .returned u∧U w' u r∧r.length=n∧(∀ x∈r,x<f.p)∧∀ j,j<n→dx (f.p:Int) ((lb r j:Nat):Int) ((cv a b a.length j:Nat):Int))∧Ext w w':=by
 have hG:=F.good
 have p0:=hG.p0
 have p1:=hG.p1
 have hn1:n≤65536:=by rw [← hn];exact Nat.pow_le_pow_right (by decide) hk
 have hn0:0<n:=by rw [← hn];exact Nat.two_pow_pos k
 have HN:=Lib.hid hn
 have aow:=Lib.hid (fun x y z u r=>@Wx f F k n (by omega) hn a b ha hab x y z u r)
 have hw1 : IntKind.i64.wrap ((2 : Int) ^ k) = (n : Int) := by rw [IntKind.wrap_i64,← hn];have:((2^k:Nat):Int)=(2:Int)^k:=by simp
                                                               rw [← this];omega
 have hk0:(0:Int)≤(k:Int):=by omega
 have hk1:decide ((k:Int)<0)=false:=by rw [decide_eq_false_iff_not];omega
 have hmf:∀ (fn:Fn) (first cap:Array Value) (w:World),(Instr.makeFunc fn first cap).run Tryz.prog w = .ok (.func fn first cap) w:=fun _ _ _ _=>rfl
 have HX:=Bx.new w f
 obtain ⟨b0,b1,b2,b3,b4,b5⟩:=id HX
 clear hn
 unfold Fd.V
 go_enter Tryz.func111,Tryz.ntmps111
 go_upto_region 2 with (fail)
 have hE0:Ext w ((w.alloc (.cells #[.int .u32 (f.p:Int),.int .u32 (f.root:Int),.int .u32 (f.neg:Int),.int .u32 (f.square:Int),.int .u32 (f.ahead:Int)] 151)).alloc (.cells #[.int .i64 (n:Nat)] 3)):=((Ext.refl w).alloc _).alloc _
 have hX1:=HX.ext ((Ext.refl _).alloc (.cells #[.int .i64 (n:Nat)] 3))
 have hN1:((w.alloc (.cells #[.int .u32 (f.p:Int),.int .u32 (f.root:Int),.int .u32 (f.neg:Int),.int .u32 (f.square:Int),.int .u32 (f.ahead:Int)] 151)).alloc (.cells #[.int .i64 (n:Nat)] 3)).cell? ⟨w.heap.size+1,0,none⟩=some (.int .i64 (n:Nat)):=by
  rw [show w.heap.size+1=(w.alloc (.cells #[.int .u32 (f.p:Int),.int .u32 (f.root:Int),.int .u32 (f.neg:Int),.int .u32 (f.square:Int),.int .u32 (f.ahead:Int)] 151)).heap.size by simp]
  go_simp
 have hs1:w.heap.size+1<((w.alloc (.cells #[.int .u32 (f.p:Int),.int .u32 (f.root:Int),.int .u32 (f.neg:Int),.int .u32 (f.square:Int),.int .u32 (f.ahead:Int)] 151)).alloc (.cells #[.int .i64 (n:Nat)] 3)).heap.size:=by simp
 clear HX b0 b1 b2 b3 b4 b5
 generalize (w.alloc (.cells #[.int .u32 (f.p:Int),.int .u32 (f.root:Int),.int .u32 (f.neg:Int),.int .u32 (f.square:Int),.int .u32 (f.ahead:Int)] 151)).alloc (.cells #[.int .i64 (n:Nat)] 3)=w2 at *
 have hPW:=Lib.hid (fun W=>BA W f hG k n (rt f k) HN.out.symm (by omega))
 go_cut [10] from 21 to 26 (fun s10 wx=>∃ (q Bq:Nat) (pw:List Nat),s10 = .pointer (some ⟨Bq,0,none⟩)∧Bq<wx.heap.size∧wx.cell? ⟨Bq,0,none⟩=some (.slice (some ⟨q,0,none⟩) pw.length pw.length)∧Hid (Pw f k (rt f k) pw)∧Rd wx q pw∧Ext w2 wx)
 case first =>
  have hdd:w2.drew.heap.size=w2.heap.size:=rfl
  have hS0:(w.heap.size<w2.drew.heap.size∧w2.drew.cell? ⟨w.heap.size,0,none⟩=some (.int .u32 (f.p:Int))∧w2.drew.cell? ⟨w.heap.size,1,none⟩=some (.int .u32 (f.root:Int))∧w2.drew.cell? ⟨w.heap.size,2,none⟩=some (.int .u32 (f.neg:Int))∧w2.drew.cell? ⟨w.heap.size,3,none⟩=some (.int .u32 (f.square:Int))∧w2.drew.cell? ⟨w.heap.size,4,none⟩=some (.int .u32 (f.ahead:Int)))∧w2.drew.cell? ⟨w.heap.size+1,0,none⟩=some (.int .i64 (n:Nat)):=⟨hX1,hN1⟩
  go_region_held3 (fun X=>(w.heap.size<X.heap.size∧X.cell? ⟨w.heap.size,0,none⟩=some (.int .u32 (f.p:Int))∧X.cell? ⟨w.heap.size,1,none⟩=some (.int .u32 (f.root:Int))∧X.cell? ⟨w.heap.size,2,none⟩=some (.int .u32 (f.neg:Int))∧X.cell? ⟨w.heap.size,3,none⟩=some (.int .u32 (f.square:Int))∧X.cell? ⟨w.heap.size,4,none⟩=some (.int .u32 (f.ahead:Int)))∧X.cell? ⟨w.heap.size+1,0,none⟩=some (.int .i64 (n:Nat)))
   (first
    | exact hS0
    | assumption
    | exact oO (by assumption) (by assumption)
    | exact oO (by assumption) ((Ext.refl _).alloc _)
    | exact oO (oO (by assumption) ((Ext.refl _).alloc _)) (by assumption)
    | exact oO (oO (oO hS0 hB3) hB4) ((Ext.refl _).alloc _)
    | exact L9 (oO (oO (oO hS0 ((Ext.refl _).alloc _)) hB3) hB4) (by omega) (by omega)
    | exact L9 (oO (oO (oO hS0 hB3) ((Ext.refl _).alloc _)) hB4) (by omega) (by omega)
    | exact L9 (by assumption) (by omega) (by omega)
    | exact L9 (oO (by assumption) ((Ext.refl _).alloc _)) (by omega) (by omega))
   (first
    | (go_at_call 156;((with_reducible refine (OB _ f hG k (by omega)).mono ?_);rintro e w3 ⟨rfl,hB3⟩;have hs3:=hB3.size;first | (have h0:Ext w2.drew w3:=hB3) | (have hz3:w3.cell? ⟨w2.heap.size,0,none⟩=some (.slice none 0 0):=Kj (x:=w2.drew) hB3;have hf3:w3.frozen? ⟨w2.heap.size,0,none⟩=false:=Kk (x:=w2.drew) hB3;have hl3:w2.heap.size<w3.heap.size:=Kl (x:=w2.drew) hB3)))
    | (go_at_call 155;((with_reducible refine (hPW.out _).mono ?_);rintro e w4 ⟨⟨q,pw,rfl,hpw,hown⟩,hB4⟩;have hs4:=hB4.size;first | (have hz4:=jH hB4 hz3;have hf4:=xE hB4 hz3 hf3) | (have hz4:w4.cell? ⟨w3.heap.size,0,none⟩=some (.slice none 0 0):=Kj (x:=w3) hB4;have hf4:w4.frozen? ⟨w3.heap.size,0,none⟩=false:=Kk (x:=w3) hB4;have hl4:w3.heap.size<w4.heap.size:=Kl (x:=w3) hB4) | skip)))
  · go_wp2_with (fail)
    go_meet
    exact ⟨q,w4.heap.size,pw,rfl,by simp,by go_simp,hpw,((But.refl w4.heap.size w4).ext ((Ext.refl w4).alloc _)).rd hown.rd (by have:=hown.block;omega),((drawn hB3).below hB4).alloc _⟩
  · go_wp2_with (fail)
    go_meet
    exact ⟨q,w3.heap.size,pw,rfl,by simp;omega,OE hz4,hpw,((But.refl w3.heap.size w4).setCell 0 _).rd hown.rd (by have:=hown.block;simp at this;omega),((((drawn hB3).alloc _).below hB4).setCell (p:=⟨w3.heap.size,0,none⟩) (by exact (drawn hB3).size) _)⟩
  · go_wp2_with (fail)
    go_meet
    exact ⟨q,w2.heap.size,pw,rfl,by simp;omega,OE hz4,hpw,((But.refl w2.heap.size w4).setCell 0 _).rd hown.rd (by have:=hown.block;omega),(((((Ext.refl w2).alloc _).below (drawn hB3)).below hB4).setCell (p:=⟨w2.heap.size,0,none⟩) (Nat.le_refl _) _)⟩
 case rest =>
  obtain ⟨q,Bq,pw,rfl,hq1,hq2,hpw,hrd,hE2⟩:=hcut
  have hX:=hX1.ext hE2
  have hNc:=jH hE2 hN1
  have hE:=hE0.below hE2
  have hs2:=hE2.size
  replace AP:=AP.below hE
  replace hub:=hub.below hE
  clear hE0 hX1 hN1 hPW hE2
  have hLa:=Lib.hid (fun W h1 h2 h3 h4 hu=>Ig W f hG k n (rt f k) (w.heap.size+1) w.heap.size Bq q pw HN.out (by omega) (F.rt (by omega)) hpw.out h1 h2 h3 h4 va a hu ha)
  have hLb:=Lib.hid (fun W h1 h2 h3 h4 hu=>Ig W f hG k n (rt f k) (w.heap.size+1) w.heap.size Bq q pw HN.out (by omega) (F.rt (by omega)) hpw.out h1 h2 h3 h4 vb b hu hb)
  have hwc:w.heap.size+1<wc.heap.size:=by omega
  go_wp2_with (fail)
  refine (hLa.out _ hrd ⟨hwc,hNc⟩ hX ⟨hq1,hq2⟩ AP).mono ?_
  rintro e w5 ⟨⟨g1,o1,rfl,hd1,hown1⟩,dJ⟩
  have hs5:=dJ.size
  have HD1:=Lib.hid hd1
  replace hrd:=(But.refl wc.heap.size wc).ext dJ |>.rd hrd (by have:=hrd.1;omega)
  replace hNc:=jH dJ hNc
  replace hX:=hX.ext dJ
  replace hq2:=jH dJ hq2
  replace hub:=hub.below dJ
  replace hE:=hE.below dJ
  clear hd1 dJ hLa AP
  go_wp2_with (fail)
  refine (hLb.out _ hrd ⟨by omega,hNc⟩ hX ⟨by omega,hq2⟩ hub).mono ?_
  rintro e w6 ⟨⟨g2,o2,rfl,hd2,hown2⟩,dV⟩
  have hs6:=dV.size
  have HD2:=Lib.hid hd2
  replace hNc:=jH dV hNc
  replace hX:=hX.ext dV
  replace hE:=hE.below dV
  have aAO:=hown1.block
  have aAP:=hown2.block
  replace hown1:=hown1.ext dV
  clear hd2 dV hLb hub hrd hq2 hq1 hpw
  have aur:g2≠g1:=by omega
  have hgf:w.heap.size≠g1:=by omega
  have hgn:w.heap.size+1≠g1:=by omega
  have hl1:=HD1.out.len
  have hl2:=HD2.out.len
  rw [HN.out] at hl1 hl2
  have HL1:=Lib.hid hl1
  have HL2:=Lib.hid hl2
  have HT1:=Lib.hid HD1.out.lt
  have HT2:=Lib.hid HD2.out.lt
  have aox:=hown2.rd
  clear hl1 hl2 hown2
  go_wp2_with (fail)
  go_loopw [36] (fun t wr=>∃ (m:Nat) (o:List Nat),m≤n∧t = .int .i64 (m:Nat)∧Hid (Upd n f.p (fun i=>mm f (lb o1 i) (lb o2 i)) m o1 o)∧Own wr wc.heap.size (.slice (some ⟨g1,0,none⟩) n n) o∧But g1 w6 wr) (fun t _=>n-(intOf t).toNat)
  case atStart=>exact ⟨0,o1,Nat.zero_le _,rfl,Upd.start HL1.out HT1.out,hown1,But.refl _ _⟩
  case round =>
   clear hown1
   obtain ⟨m,o,hm,rfl,HO,hown,hB⟩:=hrel
   by_cases hlt:m<n
   · have hc1:=hown.rd.2 m (by rw [HO.out.len];exact hlt)
     have hc2:=(hB.rd aox aur).2 m (by rw [HL2.out];exact hlt)
     obtain ⟨b0,b1,b2,b3,b4,b5⟩:=hB.bx hX hgf
     have HST:=Lib.hid (HO.out.step hlt (uZ f hG _ _))
     have he:=HO.out.at_ m
     rw [if_neg (by omega)] at he
     rw [he] at hc1
     have hx1:lb o1 m<f.p:=bK (by omega) HT1.out _
     have hy1:lb o2 m<f.p:=bK (by omega) HT2.out _
     have hol:=HO.out.len
     generalize lb o1 m=x at *
     generalize lb o2 m=y at *
     have hm0:(0:Int)≤(m:Int):=by omega
     have hm1:(m:Int)<(n:Int):=by omega
     clear HO he
     go_wp2
     have hD0:But g1 w6 wr.drew:=hB.drew
     go_region_with (first
      | (go_at_call 160;((with_reducible refine (jG _ f hG x y (by omega) (by omega) (nH (by omega) hy1)).mono ?_);rintro e w8 ⟨rfl,dU⟩;have ho8:=hown.drew.ext dU;have hc8:=ho8.rd.2 m (by omega);have hf8:=ho8.frozen' m;have ho9:=ho8.set' m (mm f x y);have gW:=(hD0.ext dU).setCell m (.int .u32 (mm f x y:Nat)))))
     all_goals
      (go_wp2
       go_roundw
       case rel=>exact ⟨m+1,_,by omega,by go_num,HST,ho9,gW⟩
       case measure=>simp [intOf];omega)
   · obtain rfl:m=n:=by omega
     have HZ1:=Lib.hid HO.out.len
     have HZ2:=Lib.hid HO.out.lt
     have HZ3:Hid (∀ q,q<m→lb o q=mm f (lb o1 q) (lb o2 q)):=fun q hq=>by rw [HO.out.at_ q,if_pos hq]
     clear HO hlt hm aox HT1 HT2 HL1 HL2
     have hw6:w.heap.size+1<w6.heap.size:=by omega
     go_wp2_with (fail)
     have hS0:(w.heap.size<wr.drew.heap.size∧wr.drew.cell? ⟨w.heap.size,0,none⟩=some (.int .u32 (f.p:Int))∧wr.drew.cell? ⟨w.heap.size,1,none⟩=some (.int .u32 (f.root:Int))∧wr.drew.cell? ⟨w.heap.size,2,none⟩=some (.int .u32 (f.neg:Int))∧wr.drew.cell? ⟨w.heap.size,3,none⟩=some (.int .u32 (f.square:Int))∧wr.drew.cell? ⟨w.heap.size,4,none⟩=some (.int .u32 (f.ahead:Int)))∧wr.drew.cell? ⟨w.heap.size+1,0,none⟩=some (.int .i64 (m:Nat)):=⟨hB.bx hX hgf,(hB.cell (p:=⟨w.heap.size+1,0,none⟩) hw6 hgn).trans hNc⟩
     have ho2:Own wr.drew wc.heap.size (.slice (some ⟨g1,0,none⟩) m m) o:=hown.drew
     have hB2:But g1 w6 wr.drew:=hB.drew
     have hPW:=Lib.hid (fun W=>BA W f hG k m (bt f k) HN.out.symm (by omega))
     clear hown hB
     go_region_held3 (fun X=>(w.heap.size<X.heap.size∧X.cell? ⟨w.heap.size,0,none⟩=some (.int .u32 (f.p:Int))∧X.cell? ⟨w.heap.size,1,none⟩=some (.int .u32 (f.root:Int))∧X.cell? ⟨w.heap.size,2,none⟩=some (.int .u32 (f.neg:Int))∧X.cell? ⟨w.heap.size,3,none⟩=some (.int .u32 (f.square:Int))∧X.cell? ⟨w.heap.size,4,none⟩=some (.int .u32 (f.ahead:Int)))∧X.cell? ⟨w.heap.size+1,0,none⟩=some (.int .i64 (m:Nat)))
      (first
       | exact hS0
       | assumption
       | exact oO (by assumption) (by assumption))
      (first
       | (go_at_call 162;((with_reducible refine (Ie _ f hG k (by omega)).mono ?_);rintro e w3 ⟨rfl,hB3⟩;have ho3:=ho2.ext hB3;have bX:=hB2.ext hB3))
       | (go_at_call 155;((with_reducible refine (hPW.out _).mono ?_);rintro e w4 ⟨⟨q2,pw2,rfl,aoy,hown⟩,hB4⟩;have ho4:=ho3.ext hB4;have bE:=bX.ext hB4;have hblk3:=ho3.block;have Px:=hown.block))
       | (go_at_call 161;((with_reducible refine (aum _ f hG k (bt f k) m o pw2 g1 q2 m wc.heap.size HN.out (by omega) (F.bt (by omega)) aoy (by rw [HZ1.out,HN.out]) HZ2.out ho4 hown.rd (by omega)).mono ?_);rintro e w5 ⟨rfl,⟨u5,NK,Wv⟩,dJ⟩;have bu:=bE.trans dJ;have Jw:(w.heap.size<w5.heap.size∧w5.cell? ⟨w.heap.size,0,none⟩=some (.int .u32 (f.p:Int))∧w5.cell? ⟨w.heap.size,1,none⟩=some (.int .u32 (f.root:Int))∧w5.cell? ⟨w.heap.size,2,none⟩=some (.int .u32 (f.neg:Int))∧w5.cell? ⟨w.heap.size,3,none⟩=some (.int .u32 (f.square:Int))∧w5.cell? ⟨w.heap.size,4,none⟩=some (.int .u32 (f.ahead:Int)))∧w5.cell? ⟨w.heap.size+1,0,none⟩=some (.int .i64 (m:Nat)):=⟨bu.bx hX hgf,(bu.cell (p:=⟨w.heap.size+1,0,none⟩) hw6 hgn).trans hNc⟩)))
     have HU:=Lib.hid NK
     clear NK aoy hown hblk3 Px dJ hB4 hB3 ho4 ho3 bE bX ho2 hB2 hS0
     go_wp2_with (fail)
     have hS1:(w.heap.size<w5.drew.heap.size∧w5.drew.cell? ⟨w.heap.size,0,none⟩=some (.int .u32 (f.p:Int))∧w5.drew.cell? ⟨w.heap.size,1,none⟩=some (.int .u32 (f.root:Int))∧w5.drew.cell? ⟨w.heap.size,2,none⟩=some (.int .u32 (f.neg:Int))∧w5.drew.cell? ⟨w.heap.size,3,none⟩=some (.int .u32 (f.square:Int))∧w5.drew.cell? ⟨w.heap.size,4,none⟩=some (.int .u32 (f.ahead:Int)))∧w5.drew.cell? ⟨w.heap.size+1,0,none⟩=some (.int .i64 (m:Nat)):=Jw
     have aoA:=Lib.hid (fun W=>Wu W f hG (fG f (sh f m)) (by have:=pg f hG (sh f m);omega))
     go_region_held3 (fun X=>(w.heap.size<X.heap.size∧X.cell? ⟨w.heap.size,0,none⟩=some (.int .u32 (f.p:Int))∧X.cell? ⟨w.heap.size,1,none⟩=some (.int .u32 (f.root:Int))∧X.cell? ⟨w.heap.size,2,none⟩=some (.int .u32 (f.neg:Int))∧X.cell? ⟨w.heap.size,3,none⟩=some (.int .u32 (f.square:Int))∧X.cell? ⟨w.heap.size,4,none⟩=some (.int .u32 (f.ahead:Int)))∧X.cell? ⟨w.heap.size+1,0,none⟩=some (.int .i64 (m:Nat)))
      (first
       | exact hS1
       | assumption
       | exact oO (by assumption) (by assumption))
      (first
       | (go_at_call 164;((with_reducible refine (OC _ f hG m (by omega)).mono ?_);rintro e w7 ⟨rfl,dP⟩))
       | (go_at_call 163;((with_reducible refine (aoA.out _).mono ?_);rintro e w8 ⟨rfl,dU⟩)))
     have HSH:Hid (mm f (fG f (sh f m)) 1=sh f m%f.p):=ajc f hG _
     have hsp:=uZ f hG (fG f (sh f m)) 1
     generalize mm f (fG f (sh f m)) 1=S at *
     have gW:Ext w5 w8:=(drawn dP).below dU
     replace Wv:=Wv.ext gW
     replace bu:=bu.ext gW
     clear dP dU gW hS1 Jw aoA
     have HU1:=Lib.hid HU.out.len
     have HU2:=Lib.hid HU.out.lt
     rw [HN.out] at HU1
     go_wp2_with (fail)
     go_loopw [68] (fun t wr=>∃ (j:Nat) (r:List Nat),j≤m∧t = .int .i64 (j:Nat)∧Hid (Upd m f.p (fun i=>mm f (lb u5 i) S) j u5 r)∧Own wr wc.heap.size (.slice (some ⟨g1,0,none⟩) m m) r∧But g1 w6 wr) (fun t _=>m-(intOf t).toNat)
     case atStart=>exact ⟨0,u5,Nat.zero_le _,rfl,Upd.start HU1.out HU2.out,Wv,bu⟩
     case round =>
      clear Wv bu
      obtain ⟨j,r,hj,rfl,HO,hown,hB⟩:=hrel
      by_cases hlt:j<m
      · have hc1:=hown.rd.2 j (by rw [HO.out.len];exact hlt)
        obtain ⟨b0,b1,b2,b3,b4,b5⟩:=hB.bx hX hgf
        have HST:=Lib.hid (HO.out.step hlt (uZ f hG _ _))
        have he:=HO.out.at_ j
        rw [if_neg (by omega)] at he
        rw [he] at hc1
        have hx1:lb u5 j<f.p:=bK (by omega) HU2.out _
        have hol:=HO.out.len
        generalize lb u5 j=x at *
        have hm0:(0:Int)≤(j:Int):=by omega
        have hm1:(j:Int)<(m:Int):=by omega
        clear HO he
        go_wp2_with (fail)
        refine (jG _ f hG x S (by omega) (by omega) (nH (by omega) hsp)).mono ?_
        rintro e w9 ⟨rfl,gW⟩
        have ho9:=hown.ext gW
        have hc9:=ho9.rd.2 j (by omega)
        have hf9:=ho9.frozen' j
        have aus:=ho9.set' j (mm f x S)
        have gy:=(hB.ext gW).setCell j (.int .u32 (mm f x S:Nat))
        generalize mm f x S=y at *
        clear b0 b1 b2 b3 b4 b5 hown hc1 hB ho9 gW
        go_wp2_with (fail)
        go_roundw
        case rel=>exact ⟨j+1,_,by omega,by go_num,HST,aus,gy⟩
        case measure=>simp [intOf];omega
      · obtain rfl:j=m:=by omega
        have HR:Hid (∀ q,q<j→lb r q=mm f (lb u5 q) (sh f j%f.p)):=fun q hq=>by rw [HO.out.at_ q,if_pos hq,← HSH.out]
        have HM:=Lib.hid (aow.out o1 o2 o u5 r HD1.out HD2.out HZ3.out HU.out HR.out)
        have hU:U wr (.slice (some ⟨g1,0,none⟩) j j) r:=hown.KG (fun x hx=>Nat.lt_trans (HO.out.lt x hx) (by omega)) (by rw [HO.out.len];omega)
        have HF:Hid (∃ u r,Ending.returned (.slice (some ⟨g1,0,none⟩) j j) = .returned u∧U wr u r∧r.length=j∧(∀ x∈r,x<f.p)∧∀ q,q<j→dx (f.p:Int) ((lb r q:Nat):Int) ((cv a b a.length q:Nat):Int)):=⟨_,r,rfl,hU,HO.out.len,HO.out.lt,HM.out⟩
        have fu:Ext w wr:=Below.trans hE ((hB.below (B:=w.heap.size) (by omega) (by omega)))
        clear HO HM hU HR hown hB
        go_wp2_with (fail)
        go_ret
        exact ⟨HF.out,fu⟩
end Go.Proofs.YtfhcmggpojhegaaGreatDoor
namespace Go.Proofs.YtfhcmggpojhegaaGreatDoor
open Go.RowKit
set_option linter.all false
set_option maxRecDepth 100000
set_option maxHeartbeats 8000000
theorem aa8 {f:Fd} (hf:Good f) (q N low v s:Nat) (hinv:q*f.ahead*f.ri%f.p=1) (hlow:N%q=low) (hN:N/q<f.p)
  (hs:dx (f.p:Int) (s:Int) ((N:Int)-(low:Int))) (hv:v=mm f s f.ahead):N/q=v:=by
 have h1:(N:Int)=(low:Int)+(q:Int)*((N/q:Nat):Int):=by
  have:=Nat.mod_add_div N q
  rw [hlow] at this
  omega
 have h2:dx (f.p:Int) ((q:Int)*(f.ahead:Int)*(f.ri:Int)) 1:=by
  have:=tZ (p:=f.p) (a:=q*f.ahead*f.ri) (b:=1) (by rw [hinv,Nat.mod_eq_of_lt hf.p0])
  rwa [Int.natCast_mul,Int.natCast_mul] at this
 have h3:dx (f.p:Int) ((mm f s f.ahead:Nat):Int) ((N/q:Nat):Int):=by
  refine (Rx f s f.ahead).trans ?_
  have h4:=(hs.mul (dx.refl _ (f.ahead:Int))).mul (dx.refl _ (f.ri:Int))
  refine h4.trans ?_
  have h5:=h2.mul (dx.refl (f.p:Int) ((N/q:Nat):Int))
  rw [Int.one_mul] at h5
  refine dx.trans (dx.of_eq ?_) h5
  rw [h1]
  grind
 rw [hv]
 exact (h3.eq (uZ f hf _ _) hN).symm
theorem inv1:F0.p*F1.ahead*F1.ri%F1.p=1:=by decide +kernel
theorem inv2:F0.p*F1.p*F2.ahead*F2.ri%F2.p=1:=by decide +kernel
theorem OG (p x y:Nat) (hp:0<p) (hx:x<p):dx (p:Int) (((y+p-x)%p:Nat):Int) ((y:Int)-(x:Int)) :=
 (dx.jX _ _).trans (KA p y x (by omega))
theorem Wy (N x y z:Nat) (hx:N%F0.p=x) (hy:N%F1.p=y) (hz:N%F2.p=z) (hN:N<F0.p*F1.p*F2.p) (v low w:Nat)
  (hv:v=mm F1 ((y+F1.p-x%F1.p)%F1.p) F1.ahead) (hl:low=F0.p*v+x) (hw:w=mm F2 ((z+F2.p-low%F2.p)%F2.p) F2.ahead) :
  N=low+F0.p*F1.p*w∧N%(F0.p*F1.p)=low:=by
 have g1:=Ru.good
 have g2:=Rv.good
 have q1:0<F1.p:=by decide
 have q2:0<F2.p:=by decide
 have hlow:N%(F0.p*F1.p)=low:=by
  have h1:N%(F0.p*F1.p)%F0.p=x:=by rw [Nat.mod_mul_right_mod,hx]
  have h2:N%(F0.p*F1.p)/F0.p=v:=by
   refine aa8 g1 F0.p (N%(F0.p*F1.p)) x v _ inv1 h1 ?_ ?_ hv
   · exact Nat.div_lt_of_lt_mul (Nat.mod_lt _ (by decide))
   · refine (OG F1.p (x%F1.p) y q1 (Nat.mod_lt _ q1)).trans (dx.sub ?_ (dx.jX _ _))
     rw [← hy]
     refine (dx.jX _ _).trans ?_
     have:dx (F1.p:Int) ((N%(F0.p*F1.p):Nat):Int) (N:Int):=by
      refine (dx.jX _ _).symm.trans ?_
      rw [Nat.mod_mul_left_mod]
      exact dx.jX _ _
     exact this.symm
  have h3:=Nat.mod_add_div (N%(F0.p*F1.p)) F0.p
  rw [h1,h2] at h3
  omega
 have h4:N/(F0.p*F1.p)=w:=by
  refine aa8 g2 (F0.p*F1.p) N low w _ inv2 hlow ?_ ?_ hw
  · exact Nat.div_lt_of_lt_mul hN
  · refine (OG F2.p (low%F2.p) z q2 (Nat.mod_lt _ q2)).trans (dx.sub ?_ (dx.jX _ _))
    rw [← hz]
    exact dx.jX _ _
 have h5:=Nat.mod_add_div N (F0.p*F1.p)
 rw [hlow,h4] at h5
 exact ⟨h5.symm,hlow⟩
end Go.Proofs.YtfhcmggpojhegaaGreatDoor
namespace Go.Proofs.YtfhcmggpojhegaaGreatDoor
open Go.RowKit
set_option linter.all false
set_option maxRecDepth 100000
set_option maxHeartbeats 8000000
theorem Rz (w:World) (hg:Gl w) (N x y z:Nat) (hx:N%F0.p=x) (hy:N%F1.p=y) (hz:N%F2.p=z) (hN:N<F0.p*F1.p*F2.p) :
  Calls Tryz.prog 112 #[.int .u32 (x:Nat),.int .u32 (y:Nat),.int .u32 (z:Nat)] w fun e w'=>e = .returned (.agg #[.int .u32 (N%4294967296:Nat),.int .u32 (N/4294967296%4294967296:Nat),.int .u32 (N/18446744073709551616%4294967296:Nat)])∧Ext w w':=by
 obtain ⟨hw0,⟨a0,a1,a2,a3,a4⟩,⟨b0,b1,b2,b3,b4⟩,⟨c0,c1,c2,c3,c4⟩⟩:=hg
 have HJ:=Lib.hid (Wy N x y z hx hy hz hN)
 have G0:=aa5.good
 have G1:=Ru.good
 have G2:=Rv.good
 have hx1:x<F0.p:=by rw [← hx];exact Nat.mod_lt _ (by decide)
 have hy1:y<F1.p:=by rw [← hy];exact Nat.mod_lt _ (by decide)
 have hz1:z<F2.p:=by rw [← hz];exact Nat.mod_lt _ (by decide)
 have hN2:N<1237940039285380274899124224:=Nat.lt_trans hN (by decide)
 clear hx hy hz hN
 generalize F0=f at *
 generalize F1=g at *
 generalize F2=h at *
 have p0:=G0.p1
 have p1:=G1.p1
 have p2:=G2.p1
 have q1:=G1.p0
 have q2:=G2.p0
 simp only [Nat.zero_add] at a0 a1 a2 a3 a4
 have b1:w.cell? ⟨0,6,none⟩=_:=b1
 have b2:w.cell? ⟨0,7,none⟩=_:=b2
 have b3:w.cell? ⟨0,8,none⟩=_:=b3
 have b4:w.cell? ⟨0,9,none⟩=_:=b4
 have c1:w.cell? ⟨0,11,none⟩=_:=c1
 have c2:w.cell? ⟨0,12,none⟩=_:=c2
 have c3:w.cell? ⟨0,13,none⟩=_:=c3
 have c4:w.cell? ⟨0,14,none⟩=_:=c4
 obtain ⟨n0,hn0⟩:∃ n0,N%4294967296=n0:=⟨_,rfl⟩
 obtain ⟨n1,hn1⟩:∃ n1,N/4294967296%4294967296=n1:=⟨_,rfl⟩
 obtain ⟨n2,hn2⟩:∃ n2,N/18446744073709551616%4294967296=n2:=⟨_,rfl⟩
 rw [hn0,hn1,hn2]
 have HN0:=Lib.hid hn0
 have HN1:=Lib.hid hn1
 have HN2:=Lib.hid hn2
 clear hn0 hn1 hn2
 go_enter Tryz.func112,Tryz.ntmps112
 go_upto_region 1 with (fail)
 have hE0:Ext w (w.alloc (.cells #[.int .u32 0,.int .u32 0,.int .u32 0] 149)):=(Ext.refl w).alloc _
 go_cut [7,8,9] from 16 to 21 (fun s7 s8 s9 wx=>∃ (B7 B8 B9:Nat),s7 = .pointer (some ⟨B7,0,none⟩)∧s8 = .pointer (some ⟨B8,0,none⟩)∧s9 = .pointer (some ⟨B9,0,none⟩)∧Bx wx B7 f∧Bx wx B8 g∧Bx wx B9 h∧w.heap.size≠B7∧w.heap.size≠B8∧w.heap.size≠B9∧Ext (w.alloc (.cells #[.int .u32 0,.int .u32 0,.int .u32 0] 149)) wx)
 case first =>
  have hsz:(w.alloc (.cells #[.int .u32 0,.int .u32 0,.int .u32 0] 149)).heap.size=w.heap.size+1:=by simp
  go_region
  all_goals
   (go_wp2_with (fail)
    go_meet
    first
     | exact ⟨_,_,_,rfl,rfl,rfl,(three _ (w.heap.size+1) hsz f g h).1,(three _ (w.heap.size+1) hsz f g h).2.1,(three _ (w.heap.size+1) hsz f g h).2.2.1,by omega,by omega,by omega,(three _ (w.heap.size+1) hsz f g h).2.2.2⟩
     | exact ⟨_,_,_,rfl,rfl,rfl,(three _ (w.heap.size+1) hsz f h g).1,(three _ (w.heap.size+1) hsz f h g).2.2.1,(three _ (w.heap.size+1) hsz f h g).2.1,by omega,by omega,by omega,(three _ (w.heap.size+1) hsz f h g).2.2.2⟩
     | exact ⟨_,_,_,rfl,rfl,rfl,(three _ (w.heap.size+1) hsz g f h).2.1,(three _ (w.heap.size+1) hsz g f h).1,(three _ (w.heap.size+1) hsz g f h).2.2.1,by omega,by omega,by omega,(three _ (w.heap.size+1) hsz g f h).2.2.2⟩
     | exact ⟨_,_,_,rfl,rfl,rfl,(three _ (w.heap.size+1) hsz g h f).2.2.1,(three _ (w.heap.size+1) hsz g h f).1,(three _ (w.heap.size+1) hsz g h f).2.1,by omega,by omega,by omega,(three _ (w.heap.size+1) hsz g h f).2.2.2⟩
     | exact ⟨_,_,_,rfl,rfl,rfl,(three _ (w.heap.size+1) hsz h f g).2.1,(three _ (w.heap.size+1) hsz h f g).2.2.1,(three _ (w.heap.size+1) hsz h f g).1,by omega,by omega,by omega,(three _ (w.heap.size+1) hsz h f g).2.2.2⟩
     | exact ⟨_,_,_,rfl,rfl,rfl,(three _ (w.heap.size+1) hsz h g f).2.2.1,(three _ (w.heap.size+1) hsz h g f).2.1,(three _ (w.heap.size+1) hsz h g f).1,by omega,by omega,by omega,(three _ (w.heap.size+1) hsz h g f).2.2.2⟩)
 case rest =>
  obtain ⟨B7,B8,B9,rfl,rfl,rfl,iy,fM,hX9,hn7,hn8,hn9,hE⟩:=hcut
  have auu:=hE0
  have r0:(w.alloc (.cells #[.int .u32 0,.int .u32 0,.int .u32 0] 149)).cell? ⟨w.heap.size,0,none⟩=some (.int .u32 0):=by go_simp
  have r1:(w.alloc (.cells #[.int .u32 0,.int .u32 0,.int .u32 0] 149)).cell? ⟨w.heap.size,1,none⟩=some (.int .u32 0):=by go_simp
  have r2:(w.alloc (.cells #[.int .u32 0,.int .u32 0,.int .u32 0] 149)).cell? ⟨w.heap.size,2,none⟩=some (.int .u32 0):=by go_simp
  have f0:(w.alloc (.cells #[.int .u32 0,.int .u32 0,.int .u32 0] 149)).frozen? ⟨w.heap.size,0,none⟩=false:=by go_simp
  have f1:(w.alloc (.cells #[.int .u32 0,.int .u32 0,.int .u32 0] 149)).frozen? ⟨w.heap.size,1,none⟩=false:=by go_simp
  have f2:(w.alloc (.cells #[.int .u32 0,.int .u32 0,.int .u32 0] 149)).frozen? ⟨w.heap.size,2,none⟩=false:=by go_simp
  generalize w.alloc (.cells #[.int .u32 0,.int .u32 0,.int .u32 0] 149)=w1 at *
  clear a0 a1 a2 a3 a4 b0 b1 b2 b3 b4 c0 c1 c2 c3 c4 auu
  -- the second digit
  obtain ⟨xm,hxm⟩:∃ xm,x%g.p=xm:=⟨_,rfl⟩
  have auv:xm<g.p:=by rw [← hxm];exact Nat.mod_lt _ (by omega)
  have SX:(x:Int)%(g.p:Int)=(xm:Int):=by rw [← hxm,Int.natCast_emod]
  have hmt:((x:Int)).tmod (g.p:Int)=(xm:Int):=by rw [Int.tmod_eq_emod_of_nonneg (by omega)];exact SX
  have hgz:¬ ((g.p:Int)=0):=by omega
  have ajk:¬ (g.p=0):=by omega
  have ajl:((g.p:Int)==0)=false:=by rw [beq_eq_false_iff_ne];omega
  have hxw:IntKind.u32.wrap (xm:Int)=(xm:Int):=by rw [IntKind.wrap_u32];omega
  obtain ⟨s1,hs1⟩:∃ s1,(y+g.p-xm)%g.p=s1:=⟨_,rfl⟩
  have aAT:s1<g.p:=by rw [← hs1];exact Nat.mod_lt _ (by omega)
  have hSub:=Lib.hid (fun W=>Dh W g G1 y xm hy1 auv)
  rw [hs1] at hSub
  have hga:=G1.ab
  have hMul:=Lib.hid (fun W=>jG W g G1 s1 g.ahead (by omega) (by omega) (nH (by omega) hga))
  obtain ⟨v,hv⟩:∃ v,mm g s1 g.ahead=v:=⟨_,rfl⟩
  have hvp:v<g.p:=by rw [← hv];exact uZ g G1 _ _
  rw [hv] at hMul
  have HV:Hid (v=mm g ((y+g.p-x%g.p)%g.p) g.ahead):=by rw [Hid,hxm,hs1,hv]
  clear hxm hs1 hv
  have hS2:(B8<wc.drew.heap.size∧wc.drew.cell? ⟨B8,0,none⟩=some (.int .u32 (g.p:Int))∧wc.drew.cell? ⟨B8,1,none⟩=some (.int .u32 (g.root:Int))∧wc.drew.cell? ⟨B8,2,none⟩=some (.int .u32 (g.neg:Int))∧wc.drew.cell? ⟨B8,3,none⟩=some (.int .u32 (g.square:Int))∧wc.drew.cell? ⟨B8,4,none⟩=some (.int .u32 (g.ahead:Int))):=fM
  go_wp2_with (fail)
  go_region_held3 (fun X=>(B8<X.heap.size∧X.cell? ⟨B8,0,none⟩=some (.int .u32 (g.p:Int))∧X.cell? ⟨B8,1,none⟩=some (.int .u32 (g.root:Int))∧X.cell? ⟨B8,2,none⟩=some (.int .u32 (g.neg:Int))∧X.cell? ⟨B8,3,none⟩=some (.int .u32 (g.square:Int))∧X.cell? ⟨B8,4,none⟩=some (.int .u32 (g.ahead:Int))))
   (first
    | exact hS2
    | assumption
    | exact OD (by assumption) (by assumption))
   (first
    | (go_at_call 165;((with_reducible refine (hSub.out _).mono ?_);rintro e w3 ⟨rfl,hB3⟩))
    | (go_at_call 160;((with_reducible refine (hMul.out _).mono ?_);rintro e w4 ⟨rfl,hB4⟩)))
  have bX:Ext wc w4:=(drawn hB3).below hB4
  clear hB3 hB4 hS2 hSub hMul SX hmt hgz ajk ajl hxw
  replace iy:=iy.ext bX
  replace fM:=fM.ext bX
  replace hX9:=hX9.ext bX
  replace hE:=hE.below bX
  -- low
  obtain ⟨fv,Xe⟩:∃ fv,f.p*v=fv:=⟨_,rfl⟩
  have auw:(f.p:Int)*(v:Int)=(fv:Int):=by rw [← Xe,Int.natCast_mul]
  have aAU:fv<1152921504606846976:=by rw [← Xe];exact Nat.lt_of_le_of_lt (Nat.mul_le_mul (Nat.le_of_lt p0) (Nat.le_of_lt hvp)) (by omega)
  have aAV:IntKind.u64.wrap (fv:Int)=(fv:Int):=by rw [IntKind.wrap_u64];omega
  obtain ⟨low,hlow⟩:∃ low,fv+x=low:=⟨_,rfl⟩
  have aoB:(fv:Int)+(x:Int)=(low:Int):=by omega
  have axp:IntKind.u64.wrap (low:Int)=(low:Int):=by rw [IntKind.wrap_u64];omega
  have HLW:Hid (low=f.p*v+x):=by rw [Hid,Xe,hlow]
  have axq:low<2305843009213693952:=by omega
  obtain ⟨d0,d1,d2,d3,d4,d5⟩:=id iy
  clear Xe hlow
  have hpw:IntKind.u64.wrap (f.p:Int)=(f.p:Int):=by rw [IntKind.wrap_u64];omega
  have hvw:IntKind.u64.wrap (v:Int)=(v:Int):=by rw [IntKind.wrap_u64];omega
  have hxw:IntKind.u64.wrap (x:Int)=(x:Int):=by rw [IntKind.wrap_u64];omega
  go_upto_region 4 with (fail)
  -- the third digit
  clear auw aoB hpw hvw hxw d0 d1 d2 d3 d4 d5
  obtain ⟨lm,hlm⟩:∃ lm,low%h.p=lm:=⟨_,rfl⟩
  have auy:lm<h.p:=by rw [← hlm];exact Nat.mod_lt _ (by omega)
  have SX:(low:Int)%(h.p:Int)=(lm:Int):=by rw [← hlm,Int.natCast_emod]
  have hmt:((low:Int)).tmod (h.p:Int)=(lm:Int):=by rw [Int.tmod_eq_emod_of_nonneg (by omega)];exact SX
  have hgz:¬ ((h.p:Int)=0):=by omega
  have ajk:¬ (h.p=0):=by omega
  have ajl:((h.p:Int)==0)=false:=by rw [beq_eq_false_iff_ne];omega
  have hxw:IntKind.u32.wrap (lm:Int)=(lm:Int):=by rw [IntKind.wrap_u32];omega
  have auz:IntKind.u64.wrap (lm:Int)=(lm:Int):=by rw [IntKind.wrap_u64];omega
  have hhw:IntKind.u64.wrap (h.p:Int)=(h.p:Int):=by rw [IntKind.wrap_u64];omega
  obtain ⟨s2,hs2⟩:∃ s2,(z+h.p-lm)%h.p=s2:=⟨_,rfl⟩
  have aAX:s2<h.p:=by rw [← hs2];exact Nat.mod_lt _ (by omega)
  have hSub:=Lib.hid (fun W=>Dh W h G2 z lm hz1 auy)
  rw [hs2] at hSub
  have auA:=G2.ab
  have hMul:=Lib.hid (fun W=>jG W h G2 s2 h.ahead (by omega) (by omega) (nH (by omega) auA))
  obtain ⟨wv,hwv⟩:∃ wv,mm h s2 h.ahead=wv:=⟨_,rfl⟩
  have aAY:wv<h.p:=by rw [← hwv];exact uZ h G2 _ _
  rw [hwv] at hMul
  have HW:Hid (wv=mm h ((z+h.p-low%h.p)%h.p) h.ahead):=by rw [Hid,hlm,hs2,hwv]
  clear hlm hs2 hwv
  have mo:(B9<w4.drew.heap.size∧w4.drew.cell? ⟨B9,0,none⟩=some (.int .u32 (h.p:Int))∧w4.drew.cell? ⟨B9,1,none⟩=some (.int .u32 (h.root:Int))∧w4.drew.cell? ⟨B9,2,none⟩=some (.int .u32 (h.neg:Int))∧w4.drew.cell? ⟨B9,3,none⟩=some (.int .u32 (h.square:Int))∧w4.drew.cell? ⟨B9,4,none⟩=some (.int .u32 (h.ahead:Int))):=hX9
  go_region_held3 (fun X=>(B9<X.heap.size∧X.cell? ⟨B9,0,none⟩=some (.int .u32 (h.p:Int))∧X.cell? ⟨B9,1,none⟩=some (.int .u32 (h.root:Int))∧X.cell? ⟨B9,2,none⟩=some (.int .u32 (h.neg:Int))∧X.cell? ⟨B9,3,none⟩=some (.int .u32 (h.square:Int))∧X.cell? ⟨B9,4,none⟩=some (.int .u32 (h.ahead:Int))))
   (first
    | exact mo
    | assumption
    | exact OD (by assumption) (by assumption))
   (first
    | (go_at_call 165;((with_reducible refine (hSub.out _).mono ?_);rintro e w5 ⟨rfl,dJ⟩))
    | (go_at_call 160;((with_reducible refine (hMul.out _).mono ?_);rintro e w6 ⟨rfl,dV⟩)))
  have bu:Ext w4 w6:=(drawn dJ).below dV
  clear dJ dV mo hSub hMul SX hmt hgz ajk ajl hxw auz hX9
  replace iy:=iy.ext bu
  replace fM:=fM.ext bu
  replace hE:=hE.below bu
  -- all together
  obtain ⟨HJ1,_⟩:=HJ.out v low wv HV.out HLW.out HW.out
  obtain ⟨M,hM⟩:∃ M,f.p*g.p=M:=⟨_,rfl⟩
  have hMb:M<1152921504606846977:=by rw [← hM];exact Nat.lt_of_le_of_lt (Nat.mul_le_mul (Nat.le_of_lt p0) (Nat.le_of_lt p1)) (by omega)
  have hMi:(f.p:Int)*(g.p:Int)=(M:Int):=by rw [← hM,Int.natCast_mul]
  have hMw:IntKind.u64.wrap (M:Int)=(M:Int):=by rw [IntKind.wrap_u64];omega
  have hpw:IntKind.u64.wrap (f.p:Int)=(f.p:Int):=by rw [IntKind.wrap_u64];omega
  have hgw:IntKind.u64.wrap (g.p:Int)=(g.p:Int):=by rw [IntKind.wrap_u64];omega
  have hww:IntKind.u64.wrap (wv:Int)=(wv:Int):=by rw [IntKind.wrap_u64];omega
  have aep:=Lib.hid (fun W=>qU M wv (by omega) (by omega) W)
  rw [hM] at HJ1
  obtain ⟨T,hT⟩:∃ T,M*wv=T:=⟨_,rfl⟩
  rw [hT] at HJ1 aep
  obtain ⟨hi,hhi⟩:∃ hi,T/18446744073709551616=hi:=⟨_,rfl⟩
  obtain ⟨lo,hlo⟩:∃ lo,T%18446744073709551616=lo:=⟨_,rfl⟩
  rw [hhi,hlo] at aep
  have hadd:=fun w=>Tw lo low w
  obtain ⟨l1,hl1⟩:∃ l1,(lo+low)%18446744073709551616=l1:=⟨_,rfl⟩
  obtain ⟨k1,hk1⟩:∃ k1,(lo+low)/18446744073709551616=k1:=⟨_,rfl⟩
  rw [hl1,hk1] at hadd
  have hn0:=HN0.out
  have hn1:=HN1.out
  have hn2:=HN2.out
  have e0:l1%4294967296=n0:=by omega
  have e1:l1/4294967296=n1:=by omega
  have e2:hi+k1=n2:=by omega
  have bl:l1<18446744073709551616:=by omega
  have d0:n0<4294967296:=by omega
  have d1:n1<4294967296:=by omega
  have d2:n2<4294967296:=by omega
  have bhi:hi≤n2:=by omega
  have bk1:k1≤n2:=by omega
  have i0:(l1:Int)%4294967296=(n0:Int):=by omega
  have i0w:IntKind.u32.wrap (l1:Int)=(n0:Int):=by rw [IntKind.wrap_u32];omega
  have i1:(l1:Int)/4294967296=(n1:Int):=by omega
  have i1w:IntKind.u32.wrap (n1:Int)=(n1:Int):=by rw [IntKind.wrap_u32];omega
  have i1m:(n1:Int)%4294967296=(n1:Int):=by omega
  have i2:(hi:Int)+(k1:Int)=(n2:Int):=by omega
  have i2w:IntKind.u32.wrap (n2:Int)=(n2:Int):=by rw [IntKind.wrap_u32];omega
  have i2x:IntKind.u64.wrap (n2:Int)=(n2:Int):=by rw [IntKind.wrap_u64];omega
  have i2m:(n2:Int)%4294967296=(n2:Int):=by omega
  clear hM hT hhi hlo hl1 hk1 hn0 hn1 hn2 e0 e1 e2 HJ1
  obtain ⟨d0,d1,d2,d3,d4,d5⟩:=id iy
  obtain ⟨e0,e1,e2,e3,e4,e5⟩:=id fM
  go_wp2_with (fail)
  refine (aep.out _).mono ?_
  rintro e w7 ⟨rfl,rfl⟩
  replace f0:=xE hE r0 f0
  replace f1:=xE hE r1 f1
  replace f2:=xE hE r2 f2
  replace r0:=jH hE r0
  replace r1:=jH hE r1
  replace r2:=jH hE r2
  have gK:Ext w w7:=hE0.below hE
  clear d0 d1 d2 d3 d4 d5 e0 e1 e2 e3 e4 e5 iy fM hE aep
  go_wp2
  refine bodyPost_ret (v:=.agg #[.int .u32 (n0:Nat),.int .u32 (n1:Nat),.int .u32 (n2:Nat)]) ?_ rfl ⟨rfl,?_⟩
  · simp [results,Tryz.results112,go_sem, *]
  · exact ((gK.setCell (p:=⟨w.heap.size,0,none⟩) (Nat.le_refl _) _).setCell (p:=⟨w.heap.size,1,none⟩) (Nat.le_refl _) _).setCell (p:=⟨w.heap.size,2,none⟩) (Nat.le_refl _) _
end Go.Proofs.YtfhcmggpojhegaaGreatDoor
namespace Go.Proofs.YtfhcmggpojhegaaGreatDoor
open Go.RowKit
set_option linter.all false
set_option maxRecDepth 100000
set_option maxHeartbeats 8000000
theorem aoC {x y:World} {f g h:Fd} (hS:(0<x.heap.size∧x.cell? ⟨0,0,none⟩=some (.int .u32 (f.p:Int))∧x.cell? ⟨0,1,none⟩=some (.int .u32 (f.root:Int))∧x.cell? ⟨0,2,none⟩=some (.int .u32 (f.neg:Int))∧x.cell? ⟨0,3,none⟩=some (.int .u32 (f.square:Int))∧x.cell? ⟨0,4,none⟩=some (.int .u32 (f.ahead:Int))∧x.cell? ⟨0,5,none⟩=some (.int .u32 (g.p:Int))∧x.cell? ⟨0,6,none⟩=some (.int .u32 (g.root:Int))∧x.cell? ⟨0,7,none⟩=some (.int .u32 (g.neg:Int))∧x.cell? ⟨0,8,none⟩=some (.int .u32 (g.square:Int))∧x.cell? ⟨0,9,none⟩=some (.int .u32 (g.ahead:Int))∧x.cell? ⟨0,10,none⟩=some (.int .u32 (h.p:Int))∧x.cell? ⟨0,11,none⟩=some (.int .u32 (h.root:Int))∧x.cell? ⟨0,12,none⟩=some (.int .u32 (h.neg:Int))∧x.cell? ⟨0,13,none⟩=some (.int .u32 (h.square:Int))∧x.cell? ⟨0,14,none⟩=some (.int .u32 (h.ahead:Int)))) (hB:Ext x y):(0<y.heap.size∧y.cell? ⟨0,0,none⟩=some (.int .u32 (f.p:Int))∧y.cell? ⟨0,1,none⟩=some (.int .u32 (f.root:Int))∧y.cell? ⟨0,2,none⟩=some (.int .u32 (f.neg:Int))∧y.cell? ⟨0,3,none⟩=some (.int .u32 (f.square:Int))∧y.cell? ⟨0,4,none⟩=some (.int .u32 (f.ahead:Int))∧y.cell? ⟨0,5,none⟩=some (.int .u32 (g.p:Int))∧y.cell? ⟨0,6,none⟩=some (.int .u32 (g.root:Int))∧y.cell? ⟨0,7,none⟩=some (.int .u32 (g.neg:Int))∧y.cell? ⟨0,8,none⟩=some (.int .u32 (g.square:Int))∧y.cell? ⟨0,9,none⟩=some (.int .u32 (g.ahead:Int))∧y.cell? ⟨0,10,none⟩=some (.int .u32 (h.p:Int))∧y.cell? ⟨0,11,none⟩=some (.int .u32 (h.root:Int))∧y.cell? ⟨0,12,none⟩=some (.int .u32 (h.neg:Int))∧y.cell? ⟨0,13,none⟩=some (.int .u32 (h.square:Int))∧y.cell? ⟨0,14,none⟩=some (.int .u32 (h.ahead:Int))):=by
 obtain ⟨h0,a0,a1,a2,a3,a4,b0,b1,b2,b3,b4,c0,c1,c2,c3,c4⟩:=hS
 have hs:=hB.size
 have hc:=fun o=>hB.cell (p:=⟨0,o,none⟩) h0
 exact ⟨by omega,(hc _).trans a0,(hc _).trans a1,(hc _).trans a2,(hc _).trans a3,(hc _).trans a4,(hc _).trans b0,(hc _).trans b1,(hc _).trans b2,(hc _).trans b3,(hc _).trans b4,(hc _).trans c0,(hc _).trans c1,(hc _).trans c2,(hc _).trans c3,(hc _).trans c4⟩
theorem agb {x y:World} {p q r:Addr} {u v s:Value} (h:x.cell? p=some u∧x.cell? q=some v∧x.cell? r=some s) (hB:Ext x y):y.cell? p=some u∧y.cell? q=some v∧y.cell? r=some s :=
 ⟨jH hB h.1,jH hB h.2.1,jH hB h.2.2⟩
theorem ajm {x:World} {p q r:Addr} {u v s:Value} {g o1 o2 o3:Nat} {v1 v2 v3:Value} (h:x.cell? p=some u∧x.cell? q=some v∧x.cell? r=some s) (hp:p.block≠g) (hq:q.block≠g) (hr:r.block≠g) :
  (((x.setCell ⟨g,o1,none⟩ v1).setCell ⟨g,o2,none⟩ v2).setCell ⟨g,o3,none⟩ v3).cell? p=some u∧(((x.setCell ⟨g,o1,none⟩ v1).setCell ⟨g,o2,none⟩ v2).setCell ⟨g,o3,none⟩ v3).cell? q=some v∧(((x.setCell ⟨g,o1,none⟩ v1).setCell ⟨g,o2,none⟩ v2).setCell ⟨g,o3,none⟩ v3).cell? r=some s:=by
 have k:=(((But.refl g x).setCell o1 v1).setCell o2 v2).setCell o3 v3
 exact ⟨(k.cell (World.block_lt_of_cell? x _ h.1) hp).trans h.1,(k.cell (World.block_lt_of_cell? x _ h.2.1) hq).trans h.2.1,(k.cell (World.block_lt_of_cell? x _ h.2.2) hr).trans h.2.2⟩
theorem Ma {f:Fd} (N r:Nat) (hr:r<f.p) (h:dx (f.p:Int) (r:Int) (N:Int)):N%f.p=r:=by
 have:=h.nat_eq
 rw [Nat.mod_eq_of_lt hr] at this
 exact this.symm
theorem aa9 (w:World) (hg:Gl w) (v u:Value) (a b:List Nat) (AP:U w v a) (hub:U w u b) (hal:a.length≤30000) (hbl:b.length≤30000) (hs:24<min a.length b.length) :
  Calls Tryz.prog 44 #[v,u] w fun e w'=>(∃ z,e = .returned z∧U3 w' z (EL a b))∧Ext w w':=by
 have ha0:0<a.length:=by omega
 have hb0:0<b.length:=by omega
 rw [KV a b ha0 hb0]
 obtain ⟨hw0,⟨a0,a1,a2,a3,a4⟩,⟨b0,b1,b2,b3,b4⟩,⟨c0,c1,c2,c3,c4⟩⟩:=id hg
 obtain ⟨A,ca,rfl,_,hxa,_⟩:=id AP
 obtain ⟨A2,cb,rfl,_,hxb,_⟩:=id hub
 obtain ⟨n,hn⟩:∃ n,a.length+b.length-1=n:=⟨_,rfl⟩
 obtain ⟨k,hk⟩:∃ k,aU (n-1)=k:=⟨_,rfl⟩
 have aer:k≤16:=by rw [← hk];exact aT (by omega)
 obtain ⟨m,hm⟩:∃ m,2^k=m:=⟨_,rfl⟩
 have hnm:n≤m:=by have:=dW (n-1);rw [hk,hm] at this;omega
 have hm1:m≤65536:=by rw [← hm];exact Nat.pow_le_pow_right (by decide) aer
 have hN:∀ j,cv a b a.length j<F0.p*F1.p*F2.p:=fun j=>Nat.lt_of_le_of_lt (Nat.le_trans (XL a b hxa hxb a.length j) (Nat.mul_le_mul_right _ hal)) (by decide)
 have hR0:=Lib.hid (fun W h1 h2=>wN W F0 aa5 k m hm aer (.slice A a.length ca) (.slice A2 b.length cb) a b h1 h2 (by omega) (by omega) (by omega))
 have hR1:=Lib.hid (fun W h1 h2=>wN W F1 Ru k m hm aer (.slice A a.length ca) (.slice A2 b.length cb) a b h1 h2 (by omega) (by omega) (by omega))
 have hR2:=Lib.hid (fun W h1 h2=>wN W F2 Rv k m hm aer (.slice A a.length ca) (.slice A2 b.length cb) a b h1 h2 (by omega) (by omega) (by omega))
 have hJ:=Lib.hid (fun W hg j x y z hx hy hz=>Rz W hg (cv a b a.length j) x y z hx hy hz (hN j))
 have HG:=Lib.hid hg
 have hcl:(conv a b).length=n:=by rw [zW,hn]
 have hca:Hid (∀ j,j<n→lb (conv a b) j=cv a b a.length j):=fun j hj=>KR a b j (by omega)
 have XN:=Lib.hid hcl
 have HU0:=Lib.hid AP
 have HU1:=Lib.hid hub
 have Fp0:1<F0.p:=by decide
 have Fp1:1<F1.p:=by decide
 have Fp2:1<F2.p:=by decide
 have HLn:=Lib.hid (fun W=>Cx W (n-1) (by omega))
 rw [hk] at HLn
 simp only [Nat.zero_add] at a0 a1 a2 a3 a4
 have hS0:(0<w.heap.size∧w.cell? ⟨0,0,none⟩=some (.int .u32 (F0.p:Int))∧w.cell? ⟨0,1,none⟩=some (.int .u32 (F0.root:Int))∧w.cell? ⟨0,2,none⟩=some (.int .u32 (F0.neg:Int))∧w.cell? ⟨0,3,none⟩=some (.int .u32 (F0.square:Int))∧w.cell? ⟨0,4,none⟩=some (.int .u32 (F0.ahead:Int))∧w.cell? ⟨0,5,none⟩=some (.int .u32 (F1.p:Int))∧w.cell? ⟨0,6,none⟩=some (.int .u32 (F1.root:Int))∧w.cell? ⟨0,7,none⟩=some (.int .u32 (F1.neg:Int))∧w.cell? ⟨0,8,none⟩=some (.int .u32 (F1.square:Int))∧w.cell? ⟨0,9,none⟩=some (.int .u32 (F1.ahead:Int))∧w.cell? ⟨0,10,none⟩=some (.int .u32 (F2.p:Int))∧w.cell? ⟨0,11,none⟩=some (.int .u32 (F2.root:Int))∧w.cell? ⟨0,12,none⟩=some (.int .u32 (F2.neg:Int))∧w.cell? ⟨0,13,none⟩=some (.int .u32 (F2.square:Int))∧w.cell? ⟨0,14,none⟩=some (.int .u32 (F2.ahead:Int))):=⟨hw0,a0,a1,a2,a3,a4,b0,b1,b2,b3,b4,c0,c1,c2,c3,c4⟩
 clear a0 a1 a2 a3 a4 b0 b1 b2 b3 b4 c0 c1 c2 c3 c4 hcl hxa hxb hN hg hk hm
 generalize F0=f at *
 generalize F1=g at *
 generalize F2=fc at *
 obtain ⟨na,hna⟩:∃ na,a.length=na:=⟨_,rfl⟩
 obtain ⟨nb,hnb⟩:∃ nb,b.length=nb:=⟨_,rfl⟩
 rw [hna] at hn hal hs ha0 HU0 hR0 hR1 hR2 hJ hca AP ⊢
 rw [hnb] at hn hbl hs hb0 HU1 hR0 hR1 hR2 hub ⊢
 clear hna hnb
 have hz:(((na:Nat):Int)==0)=false:=by rw [beq_eq_false_iff_ne];omega
 have hz2:(((nb:Nat):Int)==0)=false:=by rw [beq_eq_false_iff_ne];omega
 obtain ⟨q,hq⟩:∃ q,min na nb=q:=⟨_,rfl⟩
 have SX:min ((na:Nat):Int) ((nb:Nat):Int)=(q:Int):=by omega
 have hmd:decide ((q:Int)≤24)=false:=by rw [decide_eq_false_iff_not];omega
 have aA0:decide ((na:Int)≤24)=false:=by rw [decide_eq_false_iff_not];omega
 have aA1:decide ((nb:Int)≤24)=false:=by rw [decide_eq_false_iff_not];omega
 have hif:(if nb<na then (nb:Int) else (na:Int))=(q:Int):=by split<;>omega
 have hnn:(na:Int)+(nb:Int)-1=(n:Int):=by omega
 have hn1:(n:Int)-1=((n-1:Nat):Int):=by omega
 have hnw:IntKind.u64.wrap ((n-1:Nat):Int)=((n-1:Nat):Int):=by rw [IntKind.wrap_u64];omega
 have aA2:n≤60000:=by omega
 have hn2:0<n:=by omega
 obtain ⟨n1,aoD⟩:∃ n1,n-1=n1:=⟨_,rfl⟩
 rw [aoD] at hn1 hnw HLn
 clear hq hs hn aoD
 go_enter Tryz.func44,Tryz.ntmps44
 go_wp2_with (fail)
 refine (HLn.out _).mono ?_
 rintro e w1 ⟨rfl,rfl⟩
 go_wp2_with (fail)
 have hS1:(0<w.drew.heap.size∧w.drew.cell? ⟨0,0,none⟩=some (.int .u32 (f.p:Int))∧w.drew.cell? ⟨0,1,none⟩=some (.int .u32 (f.root:Int))∧w.drew.cell? ⟨0,2,none⟩=some (.int .u32 (f.neg:Int))∧w.drew.cell? ⟨0,3,none⟩=some (.int .u32 (f.square:Int))∧w.drew.cell? ⟨0,4,none⟩=some (.int .u32 (f.ahead:Int))∧w.drew.cell? ⟨0,5,none⟩=some (.int .u32 (g.p:Int))∧w.drew.cell? ⟨0,6,none⟩=some (.int .u32 (g.root:Int))∧w.drew.cell? ⟨0,7,none⟩=some (.int .u32 (g.neg:Int))∧w.drew.cell? ⟨0,8,none⟩=some (.int .u32 (g.square:Int))∧w.drew.cell? ⟨0,9,none⟩=some (.int .u32 (g.ahead:Int))∧w.drew.cell? ⟨0,10,none⟩=some (.int .u32 (fc.p:Int))∧w.drew.cell? ⟨0,11,none⟩=some (.int .u32 (fc.root:Int))∧w.drew.cell? ⟨0,12,none⟩=some (.int .u32 (fc.neg:Int))∧w.drew.cell? ⟨0,13,none⟩=some (.int .u32 (fc.square:Int))∧w.drew.cell? ⟨0,14,none⟩=some (.int .u32 (fc.ahead:Int))):=hS0
 have uo:U w.drew (.slice A na ca) a:=AP
 have hB0:U w.drew (.slice A2 nb cb) b:=hub
 go_region_held3 (fun X=>(0<X.heap.size∧X.cell? ⟨0,0,none⟩=some (.int .u32 (f.p:Int))∧X.cell? ⟨0,1,none⟩=some (.int .u32 (f.root:Int))∧X.cell? ⟨0,2,none⟩=some (.int .u32 (f.neg:Int))∧X.cell? ⟨0,3,none⟩=some (.int .u32 (f.square:Int))∧X.cell? ⟨0,4,none⟩=some (.int .u32 (f.ahead:Int))∧X.cell? ⟨0,5,none⟩=some (.int .u32 (g.p:Int))∧X.cell? ⟨0,6,none⟩=some (.int .u32 (g.root:Int))∧X.cell? ⟨0,7,none⟩=some (.int .u32 (g.neg:Int))∧X.cell? ⟨0,8,none⟩=some (.int .u32 (g.square:Int))∧X.cell? ⟨0,9,none⟩=some (.int .u32 (g.ahead:Int))∧X.cell? ⟨0,10,none⟩=some (.int .u32 (fc.p:Int))∧X.cell? ⟨0,11,none⟩=some (.int .u32 (fc.root:Int))∧X.cell? ⟨0,12,none⟩=some (.int .u32 (fc.neg:Int))∧X.cell? ⟨0,13,none⟩=some (.int .u32 (fc.square:Int))∧X.cell? ⟨0,14,none⟩=some (.int .u32 (fc.ahead:Int))))
  (first
   | exact hS1
   | assumption
   | exact aoC (by assumption) (by assumption))
  (first
   | (go_at_call 111;((with_reducible refine (hR0.out _ uo hB0).mono ?_);rintro e w3 ⟨⟨u3,r3,rfl,hU3,hl3,hlt3,QB⟩,hB3⟩;have hA3:=uo.below hB3;have ajn:=hB0.below hB3))
   | (go_at_call 111;((with_reducible refine (hR1.out _ hA3 ajn).mono ?_);rintro e w4 ⟨⟨u4,r4,rfl,hU4,hl4,agX,hm4⟩,hB4⟩;have hA4:=hA3.below hB4;have aoE:=ajn.below hB4))
   | (go_at_call 111;((with_reducible refine (hR2.out _ hA4 aoE).mono ?_);rintro e w5 ⟨⟨u5,r5,rfl,hU5,hl5,aoF,hm5⟩,dJ⟩)))
 have bE:Ext w w5:=((drawn hB3).below hB4).below dJ
 replace hU3:=(hU3.below hB4).below dJ
 replace hU4:=hU4.below dJ
 obtain ⟨aql,c3,hv3,_,hb3,hc3⟩:=hU3.opened hl3 (by omega)
 obtain ⟨ad4,c4,hv4,_,hb4,hc4⟩:=hU4.opened hl4 (by omega)
 obtain ⟨aqn,c5,hv5,_,hb5,Po⟩:=hU5.opened hl5 (by omega)
 subst hv3 hv4 hv5
 have H3:=Lib.hid (fun j (hj:j<m)=>Ma (f:=f) (cv a b na j) (lb r3 j) (bK (by omega) hlt3 _) (QB j hj))
 have H4:=Lib.hid (fun j (hj:j<m)=>Ma (f:=g) (cv a b na j) (lb r4 j) (bK (by omega) agX _) (hm4 j hj))
 have H5:=Lib.hid (fun j (hj:j<m)=>Ma (f:=fc) (cv a b na j) (lb r5 j) (bK (by omega) aoF _) (hm5 j hj))
 obtain ⟨i0,hi,hz0,hz1,hz2⟩:=info_parts info3
 clear hS0 hS1 uo hB0 hA3 ajn hA4 aoE hB3 hB4 dJ hU3 hU4 hU5 QB hm4 hm5 hlt3 agX aoF AP hub hR0 hR1 hR2
 go_wp2_with (at_make;refine wpList_make_full _ rfl _ _ 66 rfl (w5.heap.size) 149 i0 (.agg #[.int .u32 0,.int .u32 0,.int .u32 0]) 3 Tryz.underlying66 hi hz0 hz1 _ _ _ _ n rfl rfl (by omega) (by omega) (by rw [hz2];omega) (by unfold maxLen;omega) (Nat.le_refl _) ?_;intro w6 hown hgrow)
 have ho0:Own3 w6 w5.heap.size (.slice (some ⟨w5.heap.size,0,none⟩) n n) (List.replicate n 0):=by
  have:=hown
  rw [FC] at this
  unfold Own3
  rw [List.length_replicate]
  exact this
 have dV:Ext w5 w6:=(Ext.refl w5).grown hgrow (Nat.le_refl _) (fun _ h=>by cases h)
 clear hown hgrow hi hz0 hz1 hz2 i0
 obtain ⟨B,hB⟩:∃ B,w5.heap.size=B:=⟨_,rfl⟩
 have XO:=Lib.hid hB
 rw [hB] at hb3 hb4 hb5 ho0 ⊢
 clear hB
 go_loopw [61] (fun t wr=>∃ (j:Nat) (o:List Nat),j≤n∧t = .int .i64 (j:Nat)∧Hid (o.length=n∧∀ q,q<j→lb o q=cv a b na q)∧Own3 wr B (.slice (some ⟨B,0,none⟩) n n) o∧Ext w5 wr) (fun t _=>n-(intOf t).toNat)
 case atStart=>exact ⟨0,_,Nat.zero_le _,rfl,⟨by simp,fun q hq=>by omega⟩,ho0,dV⟩
 case round =>
  clear ho0 dV
  obtain ⟨j,o,hj,rfl,HO,hown,hE⟩:=hrel
  by_cases hlt:j<n
  · have hx1:=(hE.cell (p:=aql.add j) (by rw [aJ,XO.out];exact hb3)).trans (hc3 j (by omega))
    have hx2:=(hE.cell (p:=ad4.add j) (by rw [aJ,XO.out];exact hb4)).trans (hc4 j (by omega))
    have hx3:=(hE.cell (p:=aqn.add j) (by rw [aJ,XO.out];exact hb5)).trans (Po j (by omega))
    have hGj:Gl wr.drew:=HG.out.ext (bE.below hE).drew
    have hJJ:=hJ.out wr.drew hGj j _ _ _ (H3.out j (by omega)) (H4.out j (by omega)) (H5.out j (by omega))
    have HST:Hid ((o.set j (cv a b na j)).length=n∧∀ q,q<j+1→lb (o.set j (cv a b na j)) q=cv a b na q):=by
     refine ⟨by rw [List.length_set];exact HO.out.1,fun q hq=>?_⟩
     rw [iT _ _ _ _ (by rw [HO.out.1];exact hlt)]
     by_cases e:j=q
     · rw [if_pos e,e]
     · rw [if_neg e];exact HO.out.2 q (by omega)
    generalize lb r3 j=x at *
    generalize lb r4 j=y at *
    generalize lb r5 j=z at *
    obtain ⟨N,hN⟩:∃ N,cv a b na j=N:=⟨_,rfl⟩
    rw [hN] at hJJ HST
    obtain ⟨z0,hz0⟩:∃ z0,N%4294967296=z0:=⟨_,rfl⟩
    obtain ⟨z1,hz1⟩:∃ z1,N/4294967296%4294967296=z1:=⟨_,rfl⟩
    obtain ⟨z2,hz2⟩:∃ z2,N/18446744073709551616%4294967296=z2:=⟨_,rfl⟩
    rw [hz0,hz1,hz2] at hJJ
    have hol:=HO.out.1
    have hj0:(0:Int)≤(j:Int):=by omega
    have hj1:(j:Int)<(n:Int):=by omega
    have hj2:(j:Int)<(m:Int):=by omega
    have hSS:wr.drew.cell? (aql.add j)=some (.int .u32 (x:Nat))∧wr.drew.cell? (ad4.add j)=some (.int .u32 (y:Nat))∧wr.drew.cell? (aqn.add j)=some (.int .u32 (z:Nat)):=⟨hx1,hx2,hx3⟩
    have hn3:(aql.add j).block≠B:=by rw [aJ];omega
    have hn4:(ad4.add j).block≠B:=by rw [aJ];omega
    have hn5:(aqn.add j).block≠B:=by rw [aJ];omega
    have hown':Own3 wr.drew B (.slice (some ⟨B,0,none⟩) n n) o:=hown
    clear hc3 hc4 Po HO hN hx1 hx2 hx3
    go_wp2_with (fail)
    go_region_held3 (fun X=>X.cell? (aql.add j)=some (.int .u32 (x:Nat))∧X.cell? (ad4.add j)=some (.int .u32 (y:Nat))∧X.cell? (aqn.add j)=some (.int .u32 (z:Nat)))
     (first
      | exact hSS
      | assumption
      | exact agb (by assumption) (by assumption)
      | exact ajm (agb hSS dP) hn3 hn4 hn5)
     (first
      | (go_at_call 112;((with_reducible refine hJJ.mono ?_);rintro e w7 ⟨rfl,dP⟩;have ho7:=hown'.ext dP;have k0:=ho7.cell (j:=j*3) (by omega);have k1:=ho7.cell (j:=j*3+1) (by omega);have k2:=ho7.cell (j:=j*3+2) (by omega);have f0:=ho7.frozen (j*3);have f1:=ho7.frozen (j*3+1);have f2:=ho7.frozen (j*3+2))))
    have ho8:=ho7.mQ j N (by omega)
    rw [hz0,hz1,hz2] at ho8
    have hsz:w5.heap.size≤B:=by rw [XO.out];exact Nat.le_refl _
    have dL:Ext w5 (((w7.setCell ⟨B,j*3,none⟩ (.int .u32 (z0:Nat))).setCell ⟨B,j*3+1,none⟩ (.int .u32 (z1:Nat))).setCell ⟨B,j*3+2,none⟩ (.int .u32 (z2:Nat))) :=
     (((hE.drew.below dP).setCell (p:=⟨B,j*3,none⟩) hsz _).setCell (p:=⟨B,j*3+1,none⟩) hsz _).setCell (p:=⟨B,j*3+2,none⟩) hsz _
    clear ho7 hown hown' hE dP hJJ hSS
    go_wp2
    go_roundw
    case rel=>exact ⟨j+1,_,by omega,by go_num,HST,ho8,dL⟩
    case measure=>simp [intOf];omega
  · obtain rfl:j=n:=by omega
    have hcv:o=conv a b:=by
     refine kZ (by rw [HO.out.1,XN.out]) fun q hq=>?_
     rw [HO.out.1] at hq
     rw [HO.out.2 q hq,hca.out q hq]
    have hU:=hown.KG
    rw [hcv] at hU
    have HF:Hid (∃ z,Ending.returned (.slice (some ⟨B,0,none⟩) j j) = .returned z∧U3 wr z (conv a b)):=⟨_,rfl,hU⟩
    have fu:=bE.below hE
    clear hU hown HO hE hc3 hc4 Po
    go_wp2
    go_ret
    exact ⟨HF.out,fu⟩
theorem aa' (w:World) (hg:Gl w) (v u:Value) (a b:List Nat) (AP:U w v a) (hub:U w u b) (hal:a.length≤30000) (hbl:b.length≤30000) (cs:List Nat) (hc:EL a b=cs) :
  Calls Tryz.prog 44 #[v,u] w fun e w'=>∃ z,e = .returned z∧U3 w' z cs∧Ext w w':=by
 subst hc
 rcases Nat.lt_or_ge 24 (min a.length b.length) with h | h
 · exact (aa9 w hg v u a b AP hub hal hbl h).mono fun e w' ⟨⟨z,he,hz⟩,hB⟩=>⟨z,he,hz,hB⟩
 · exact P5 w v u a b AP hub (by omega) (by omega) h _ rfl
end Go.Proofs.YtfhcmggpojhegaaGreatDoor
namespace Go.Proofs.YtfhcmggpojhegaaGreatDoor
open Go.RowKit
set_option linter.all false
set_option maxRecDepth 100000
set_option maxHeartbeats 8000000
attribute [local go_sem ↓] fU
attribute [local go_sem] bY
theorem gz (w:World) (v:Value) (xs:List Nat) (h:U w v xs) (hlen:xs.length≤1000000000) :
  Calls Tryz.prog 46 #[v] w fun e w'=>(∃ u,e = .returned u∧U w' u (limbs (val xs)))∧Below w.heap.size w w':=by
 have h':=h
 obtain ⟨A,c,rfl,⟨hc,hm⟩,hx,hr⟩:=h
 go_enter Tryz.func46,Tryz.ntmps46
 go_wp2
 go_loop [3] (fun n=>∃ k:Nat,k≤xs.length∧n = .int .i64 k∧Hid (∀ j,k≤j→j<xs.length→lb xs j=0)) (fun n=>(intOf n).toNat)
 case atStart=>exact ⟨xs.length,Nat.le_refl _,rfl,fun j h1 h2=>by omega⟩
 case round =>
  obtain ⟨k,hk,rfl,hz⟩:=hrel
  have hfin:(0<k→lb xs (k-1)≠0)→∃ v' w',(Builtin.append_ #[22,22] 22 #[.slice (some ⟨w.heap.size,0,none⟩) 0 0,.slice A k c]).run Tryz.prog (w.alloc (.cells #[] 27)) = .ok v' w'∧U w' v' (limbs (val xs))∧Below w.heap.size w w':=fun h2=>by
   have hB:Below w.heap.size w (w.alloc (.cells #[] 27)):=(Below.refl _ _).alloc (Nat.le_refl _) _
   have hown:Own (w.alloc (.cells #[] 27)) w.heap.size (.slice (some ⟨w.heap.size,0,none⟩) 0 0) []:=World.ownsRow_lit w #[] 0 (Nat.le_refl _) (Nat.zero_le _) rfl
   have hu:U w (.slice A k c) (xs.take k):=h'.take hk (by omega)
   have htl:(xs.take k).length=k:=by simp;omega
   obtain ⟨v',w',hrun,ho,hg⟩:=jP _ w.heap.size _ [] hown _ _ (hu.below hB) (by rw [htl];simp;omega) hB.size
   refine ⟨v',w',hrun,?_,hB.grown hg hB.size (fun j e=>by cases e;exact Nat.le_refl _)⟩
   rw [sV xs k hx hk hz.out h2]
   rw [List.nil_append] at ho
   exact ho.KG (fun x hx'=>hx x (List.mem_of_mem_take hx')) (by rw [htl];omega)
  rcases Nat.eq_zero_or_pos k with rfl | h0
  · obtain ⟨v',w',hrun,HU,HB⟩:=hfin (fun h=>absurd h (by omega))
    obtain ⟨t1,t2,t3⟩:=j5 hrun
    clear hfin hrun
    go_wp2
    go_ret
    exact ⟨⟨_,rfl,HU⟩,HB⟩
  · obtain ⟨ad,rfl,hb,hcell⟩:=hr (by omega)
    have hc1:=hcell (k-1) (by omega)
    by_cases hx0:lb xs (k-1)=0
    · have ht:((((lb xs (k-1):Nat)):Int)==0)=true:=by rw [hx0];rfl
      have HX:=Lib.hid hx0
      clear hx0 hfin
      go_wp2
      go_round
      case rel=>exact ⟨k-1,by omega,by go_num,fun j h1 h2=>by
       rcases Nat.lt_or_ge j k with h3 | h3
       · have:j=k-1:=by omega
         subst this;exact HX.out
       · exact hz.out j h3 h2⟩
      case measure=>simp [intOf];omega
    · have ht:((((lb xs (k-1):Nat)):Int)==0)=false:=by rw [beq_eq_false_iff_ne];omega
      obtain ⟨v',w',hrun,HU,HB⟩:=hfin (fun _=>hx0)
      obtain ⟨t1,t2,t3⟩:=j5 hrun
      clear hfin hrun hx0
      go_wp2
      go_ret
      exact ⟨⟨_,rfl,HU⟩,HB⟩
end Go.Proofs.YtfhcmggpojhegaaGreatDoor
namespace Go.Proofs.YtfhcmggpojhegaaGreatDoor
open Go.RowKit
set_option linter.all false
set_option maxRecDepth 100000
set_option maxHeartbeats 8000000
theorem mD (w:World) (v:Value) (xs:List Nat) (k:Int) (hk0:0≤k) (hk1:k≤1000000000) (h:U w v xs) :
  Calls Tryz.prog 9 #[v,.int .i64 k] w fun e w'=>(∃ u,e = .returned u∧Un w' u (lF xs k.toNat))∧Below w.heap.size w w':=by
 have h':=h
 obtain ⟨A,c,rfl,⟨hc,hm⟩,hx,hr⟩:=h
 clear hr
 by_cases hl:(xs.length:Int)≤k
 · have hu:=gz w _ xs h' (by omega)
   have HT:Hid (xs.take k.toNat=xs):=List.take_of_length_le (by omega)
   have hmin:min (xs.length:Int) k=xs.length:=by omega
   go_enter Tryz.func9,Tryz.ntmps9
   go_wp2_with (go_at_call 46;refine hu.mono ?_;rintro e w' ⟨⟨z,rfl,hz⟩,hB⟩)
   go_ret
   exact ⟨⟨_,rfl,by rw [Un,lF,HT.out];exact hz⟩,hB⟩
 · obtain ⟨k,rfl⟩:=Int.eq_ofNat_of_zero_le hk0
   have hu:=gz w _ _ (h'.take (k:=k) (c':=c) (by omega) (by omega)) (by rw [List.length_take];omega)
   have hmin:min (xs.length:Int) (k:Int)=k:=by omega
   go_enter Tryz.func9,Tryz.ntmps9
   go_wp2_with (go_at_call 46;refine hu.mono ?_;rintro e w' ⟨⟨z,rfl,hz⟩,hB⟩)
   go_ret
   exact ⟨⟨_,rfl,by rw [Un,lF,Int.toNat_natCast];exact hz⟩,hB⟩
end Go.Proofs.YtfhcmggpojhegaaGreatDoor
namespace Go.Proofs.YtfhcmggpojhegaaGreatDoor
open Go.RowKit
set_option linter.all false
set_option maxRecDepth 100000
set_option maxHeartbeats 8000000
theorem nA (w:World) (v:Value) (xs:List Nat) (k:Int) (h:U w v xs) (hk0:0≤k) (hk1:k≤1000000000) (n:Nat) (hn:lF xs k.toNat=n) :
  Calls Tryz.prog 9 #[v,.int .i64 k] w fun e w'=>∃ u,e = .returned u∧Un w' u n∧Ext w w':=by
 subst hn
 exact (mD w v xs k hk0 hk1 h).mono fun e w' ⟨⟨u,he,hu⟩,hb⟩=>⟨u,he,hu,hb⟩
end Go.Proofs.YtfhcmggpojhegaaGreatDoor
namespace Go.Proofs.YtfhcmggpojhegaaGreatDoor
open Go.RowKit
set_option linter.all false
set_option maxRecDepth 100000
set_option maxHeartbeats 8000000
theorem aba (W:World) (hg:Gl W) (A A2:Option Addr) (na nb ca cb:Nat) (a b:List Nat) (n:Nat) (h1:U W (.slice A na ca) a) (h2:U W (.slice A2 nb cb) b) (hna:na≤30000) (hnb:nb≤30000) (hn:(EL a b).length=n) :
  Calls Tryz.prog 44 #[.slice A na ca,.slice A2 nb cb] W fun e w'=>∃ A3 c3,e = .returned (.slice A3 n c3)∧U3 w' (.slice A3 n c3) (EL a b)∧Ext W w':=by
 have e1:a.length=na:=by obtain ⟨_,_,e,_⟩:=h1;injection e with _ e _;exact e.symm
 have e2:b.length=nb:=by obtain ⟨_,_,e,_⟩:=h2;injection e with _ e _;exact e.symm
 refine (aa' W hg _ _ a b h1 h2 (by omega) (by omega) _ rfl).mono ?_
 rintro e w' ⟨z,rfl,hz,hB⟩
 obtain ⟨A3,c3,e3,_⟩:=id hz
 rw [hn] at e3
 subst e3
 exact ⟨A3,c3,rfl,hz,hB⟩
theorem RA (w:World) (hg:Gl w) (va vb:Value) (xs ys:List Nat) (ha:U w va xs) (hb:U w vb ys) (hla:xs.length≤1000) (hlb:ys.length≤1000) :
  Calls Tryz.prog 11 #[va,vb] w fun e w'=>(∃ u,e = .returned u∧Un w' u (val xs*val ys))∧Ext w w':=by
 by_cases hlt:xs.length<ys.length
 · have:=xG true w Gl hg (fun w w'=>Gl.ext) vb va ys xs _ _ (fun W h A A2 na ca cb a b n h1 h2 h3 h4 h5=>aba W h A A2 na _ ca cb a b n h1 h2 h3 h4 h5) hb ha rfl rfl (by omega) (fun _=>hlt) hlb
   rw [Nat.mul_comm (val ys)] at this
   exact this
 · exact xG false w Gl hg (fun w w'=>Gl.ext) va vb xs ys _ _ (fun W h A A2 na ca cb a b n h1 h2 h3 h4 h5=>aba W h A A2 na _ ca cb a b n h1 h2 h3 h4 h5) ha hb rfl rfl (by omega) (fun h=>by cases h) hla
end Go.Proofs.YtfhcmggpojhegaaGreatDoor
namespace Go.Proofs.YtfhcmggpojhegaaGreatDoor
open Go.RowKit
set_option linter.all false
set_option maxRecDepth 100000
set_option maxHeartbeats 8000000
def Pd (f:Nat):Prop:=∀ (w:World) (va vb:Value) (n m k:Nat),Gl w→Un w va n→Un w vb m→(limbs n).length≤398→(limbs m).length≤398→n*m=k→Calls Tryz.prog f #[va,vb] w fun e w'=>∃ u,e = .returned u∧Un w' u k∧Ext w w'
theorem ajo:Pd 10 := fun w va vb n m k _ ha hb hn hm hk=>by
 refine (Ih w va vb _ _ ha hb (by omega) (by omega) (by omega)).mono ?_
 rw [aO,aO,hk]
 rintro e w' ⟨⟨u,h1,h2⟩,h3⟩
 exact ⟨u,h1,h2,h3⟩
theorem ajp:Pd 11 := fun w va vb n m k hg ha hb hn hm hk=>by
 refine (RA w hg va vb _ _ ha hb (by omega) (by omega)).mono ?_
 rw [aO,aO,hk]
 rintro e w' ⟨⟨u,h1,h2⟩,h3⟩
 exact ⟨u,h1,h2,h3⟩
end Go.Proofs.YtfhcmggpojhegaaGreatDoor
namespace Go.Proofs.YtfhcmggpojhegaaGreatDoor
open Go.ChangeShapes Go.WideShapes Go.ChangeAt Go.RowKit
set_option linter.all false
set_option maxRecDepth 100000
set_option maxHeartbeats 8000000
theorem kL {P:Program} {k e:TypeId} {n:Nat} {W:World} (hu:P.underlying k=some (.array n e)) {r:Reach} {b0:Nat} {v:Value} (h:Value.okWide P W r b0 k v):∃ xs:Array Value,v = .agg xs∧xs.size=P.cellsOf k:=by
 simp only [Value.okWide,hu] at h
 obtain ⟨cs,h1,h2,_⟩:=h
 exact ⟨cs,h1,h2⟩
theorem oF {H:Type} {enc:TypeId × Value→H} {P:Program} {w:World} {base:Nat} {spare:Nat→Bool} {held:Bool} {t e:TypeId} {fuel:Nat} {c0 c1:Value} {x:DataW H × List MemPlace} (ht:P.underlying t=some (.array 2 e)) (hce:P.cellsOf e=1)
  (h:DataW.trod enc P w base spare held fuel t [c0,c1]=some x) :
  ∃ y0 y1 n,DataW.trod enc P w base spare held n e [c0]=some y0∧DataW.trod enc P w base spare held n e [c1]=some y1:=by
 cases fuel with
 | zero=>simp [DataW.trod] at h
 | succ n =>
  unfold DataW.trod at h
  rw [ht] at h
  have r2:List.range 2=[0,1]:=rfl
  simp [r2,hce] at h
  obtain ⟨_,h⟩:=h
  cases h0:DataW.trod enc P w base spare held n e [c0] with
  | none=>simp [h0] at h
  | some y0 =>
   cases h1:DataW.trod enc P w base spare held n e [c1] with
   | none=>simp [h0,h1] at h
   | some y1=>exact ⟨y0,y1,n,h0,h1⟩
theorem vU {H:Type} {enc:TypeId × Value→H} {W:World} {base:Nat} {v:Value} {d:DataW H} {ps:List MemPlace} (hval:Value.okWide Tryz.prog W .any base 23 v) (h:DataW.Trod enc Tryz.prog W 0 (fun _=>true) true 23 v d ps)
  (hlt:∀ p∈ps,p.block<W.heap.size):∃ (va vb:Value) (xs ys:List Nat),v = .agg #[va,vb]∧U W va xs∧U W vb ys:=by
 obtain ⟨cs,rfl,hsz⟩:=kL Tryz.underlying23 hval
 rw [show Tryz.prog.cellsOf 23 = 2 by kernel_rfl] at hsz
 obtain ⟨l⟩:=cs
 match l,hsz with
 | [c0,c1],_ =>
  obtain ⟨fuel,hf⟩:=h
  obtain ⟨y0,y1,n,h0,h1⟩:=oF Tryz.underlying23 (show Tryz.prog.cellsOf 22 = 1 by kernel_rfl) hf
  obtain ⟨VS,u0⟩:=fC h0
  obtain ⟨VT,u1⟩:=fC h1
  exact ⟨c0,c1,VS,VT,rfl,u0,u1⟩
end Go.Proofs.YtfhcmggpojhegaaGreatDoor
namespace Go.Proofs.YtfhcmggpojhegaaGreatDoor
open Go.RowKit
set_option linter.all false
set_option maxRecDepth 100000
set_option maxHeartbeats 8000000
/-! Contracts. -/
/-! Comparisons of what nat.Cmp tells. -/
section
variable {P:Program} {T:TypeId} {x y:Operand} {n m:Nat}
end
/-! Numbers of the kinds. -/
section
variable {P:Program} {T:TypeId} {x y:Operand} {a b:Nat} {za zb:Int}
theorem zq (h:a+b<4294967296) (X:World):Pl.Bn P .add T x y (.int .u32 ((a:Nat):Int)) (.int .u32 ((b:Nat):Int)) X = .ok (.int .u32 ((a+b:Nat):Int)) X:=Pl.XX (by rw [Pl.w32 (by omega) (by omega)];omega) X
theorem Ii (h:b≤a∧a≤9223372036854775807) (X:World):Pl.Bn P .sub T x y (.int .i64 ((a:Nat):Int)) (.int .i64 ((b:Nat):Int)) X = .ok (.int .i64 ((a-b:Nat):Int)) X:=Pl.aft (Pl.s64 rfl rfl h.1 h.2) X
theorem Ij (h:a*b<4294967296) (X:World):Pl.Bn P .mul T x y (.int .u32 ((a:Nat):Int)) (.int .u32 ((b:Nat):Int)) X = .ok (.int .u32 ((a*b:Nat):Int)) X:=Pl.XY (by rw [← Int.natCast_mul,Pl.w32 (by omega) (by omega)]) X
theorem gZ (h0:b≠0) (_:a≤a) (X:World):Pl.Bn P .rem T x y (.int .u32 ((a:Nat):Int)) (.int .u32 ((b:Nat):Int)) X = .ok (.int .u32 ((a%b:Nat):Int)) X:=Pl.af9 (by omega) (Int.ofNat_tmod a b).symm X
end
/-! Ways out of loops and blocks. -/
section
variable {P:Program} {Q:Exit→Act→World→Prop} {n:Nat} {ds:List Deferred} {cs:List Code} {l:List (Nat × Value)} {w:World}
end
section
variable {P:Program} {L:List Oper} {S:World→Prop} {K:List (Nat × Value)→World→Prop} {kk:Bool} {i m d:Nat} {o:Oper} {x y:Operand} {r:List (Bool × Nat × Nat)} {l:List (Nat × Value)} {w:World} {k:IntKind} {a b:Nat}
end
end Go.Proofs.YtfhcmggpojhegaaGreatDoor
namespace Go.Proofs.YtfhcmggpojhegaaGreatDoor
open Go.RowKit
set_option linter.all false
set_option maxRecDepth 100000
set_option maxHeartbeats 8000000
section
variable {L:List Oper} {K:List (Nat × Value)→World→Prop} {i m:Nat} {o:Oper} {x y:Operand} {r:List (Bool × Nat × Nat)} {l:List (Nat × Value)} {w:World}
end
theorem Gd.four {w:World} {K:Nat} {cs:List Value} (h:Gd w K cs) (hl:cs.length=8):∃ b0 A0 n0 c0 b1 A1 n1 c1 b2 A2 n2 c2 b3 A3 n3 c3,cs=[.bool b0,.slice A0 n0 c0,.bool b1,.slice A1 n1 c1,.bool b2,.slice A2 n2 c2,.bool b3,.slice A3 n3 c3]:=by
 have one:∀ {cs:List Value} {n:Nat},Gd w K cs→cs.length=n+1→∃ b A k c l,cs = .bool b::.slice A k c::l∧Gd w K l∧l.length+1=n:=by
  intro cs n h hl
  match cs,h with
  | .bool b::.slice A k c::l,h=>exact ⟨b,A,k,c,l,rfl,h.2,by simpa using hl⟩
 obtain ⟨b0,A0,n0,c0,l0,rfl,h0,e0⟩:=one h hl
 obtain ⟨b1,A1,n1,c1,l1,rfl,h1,e1⟩:=one h0 (n:=5) (by omega)
 obtain ⟨b2,A2,n2,c2,l2,rfl,h2,e2⟩:=one h1 (n:=3) (by omega)
 obtain ⟨b3,A3,n3,c3,l3,rfl,h3,e3⟩:=one h2 (n:=1) (by omega)
 obtain rfl:l3=[]:=List.eq_nil_of_length_eq_zero (by omega)
 exact ⟨_,_,_,_,_,_,_,_,_,_,_,_,_,_,_,_,rfl⟩
namespace Tu
set_option linter.all false
set_option maxRecDepth 100000
set_option maxHeartbeats 8000000
end Tu
open Tu
end Go.Proofs.YtfhcmggpojhegaaGreatDoor
namespace Go.Proofs.YtfhcmggpojhegaaGreatDoor
set_option linter.all false
set_option maxRecDepth 100000
set_option maxHeartbeats 8000000
theorem Wz (b n k:Nat):fF b (fP b n k)=n%b^k:=by
 induction k generalizing n with
 | zero=>rw [Nat.pow_zero,Nat.mod_one];rfl
 | succ k ih =>
  rw [fP,sj,ih,Nat.pow_succ,Nat.mul_comm (b^k) b,Nat.mod_mul,Nat.mul_comm,Nat.add_comm]
end Go.Proofs.YtfhcmggpojhegaaGreatDoor
namespace Go.Proofs.YtfhcmggpojhegaaGreatDoor
set_option linter.all false
set_option maxRecDepth 100000
set_option maxHeartbeats 8000000
theorem aes (b:Nat) (hb:2≤b) (a:Nat):fF b (nd b a)=a:=by
 have h:a<b^a:=Nat.lt_pow_self (by omega)
 rw [← ow b hb a a h,DL,Wz,Nat.mod_eq_of_lt h]
theorem aoG (b:Nat) (hb:2≤b) (a:Nat):∀ d∈nd b a,d<b:=by
 have h:a<b^a:=Nat.lt_pow_self (by omega)
 rw [← ow b hb a a h]
 intro d hd
 obtain ⟨k,hk⟩:=mZ (fP b a a)
 exact Td b a a (by omega) d (by rw [hk];exact List.mem_append_right _ hd)
theorem WA (b:Nat) (hb:2≤b) (a k:Nat) (h:a<b^k):(nd b a).length≤k:=by
 rw [← ow b hb k a h]
 obtain ⟨j,hj⟩:=mZ (fP b a k)
 have:=congrArg List.length hj
 rw [iZ,List.length_append,List.length_replicate] at this
 omega
end Go.Proofs.YtfhcmggpojhegaaGreatDoor
namespace Go.Proofs.YtfhcmggpojhegaaGreatDoor
set_option linter.all false
set_option maxRecDepth 100000
set_option maxHeartbeats 8000000
theorem WB (b d:Nat) (ds:List Nat):fF b (d::ds)=d*b^ds.length+fF b ds:=by
 rw [show d::ds=[d]++ds from rfl,ou]
 simp [fF]
theorem aet (b:Nat) (hb:2≤b) (a:Nat):fF b (dt b a)=a:=by
 unfold dt
 split
 · rename_i h;subst h;simp [fF]
 · exact aes b hb a
theorem abb (b:Nat) (hb:2≤b) (a:Nat):∀ d∈dt b a,d<b:=by
 unfold dt
 split
 · intro d hd;simp at hd;omega
 · exact aoG b hb a
theorem WC (b:Nat) (hb:2≤b) (a k:Nat) (hk:1≤k) (h:a<b^k):(dt b a).length≤k:=by
 unfold dt
 split
 · simpa using hk
 · exact WA b hb a k h
end Go.Proofs.YtfhcmggpojhegaaGreatDoor
namespace Go.Proofs.YtfhcmggpojhegaaGreatDoor
open Go.RowKit
set_option linter.all false
set_option maxRecDepth 100000
set_option maxHeartbeats 8000000
theorem Mc (w:World) (c:Nat) (h:c<256) :
  Calls Tryz.prog 54 #[.int .u8 (c:Nat)] w fun e w'=>e = .returned (.int .i64 (sw c:Nat))∧w'=w:=by
 have hc:c≤47∨(48≤c∧c≤57)∨(58≤c∧c≤96)∨(97≤c∧c≤122)∨123≤c:=by omega
 have hw:sw c=if 48≤c∧c≤57 then c-48 else if 97≤c∧c≤122 then c-97+10 else 99:=rfl
 generalize sw c=r at *
 rcases hc with hc | hc | hc | hc | hc
 · obtain rfl:r=99:=by rw [hw,if_neg (by omega),if_neg (by omega)]
   clear hw
   go_enter Tryz.func54,Tryz.ntmps54
   go_wp2
   go_ret
   exact ⟨rfl,rfl⟩
 · obtain rfl:r=c-48:=by rw [hw,if_pos (by omega)]
   obtain ⟨d,rfl⟩:∃ d,c=d+48:=⟨c-48,by omega⟩
   clear hw
   go_enter Tryz.func54,Tryz.ntmps54
   go_wp2
   go_ret
   exact ⟨by go_num,rfl⟩
 · obtain rfl:r=99:=by rw [hw,if_neg (by omega),if_neg (by omega)]
   clear hw
   go_enter Tryz.func54,Tryz.ntmps54
   go_wp2
   go_ret
   exact ⟨rfl,rfl⟩
 · obtain rfl:r=c-97+10:=by rw [hw,if_neg (by omega),if_pos (by omega)]
   obtain ⟨d,rfl⟩:∃ d,c=d+97:=⟨c-97,by omega⟩
   clear hw
   go_enter Tryz.func54,Tryz.ntmps54
   go_wp2
   go_ret
   exact ⟨by go_num,rfl⟩
 · obtain rfl:r=99:=by rw [hw,if_neg (by omega),if_neg (by omega)]
   clear hw
   go_enter Tryz.func54,Tryz.ntmps54
   go_wp2
   go_ret
   exact ⟨rfl,rfl⟩
end Go.Proofs.YtfhcmggpojhegaaGreatDoor
namespace Go.Proofs.YtfhcmggpojhegaaGreatDoor
open Go.RowKit
set_option linter.all false
set_option maxRecDepth 100000
set_option maxHeartbeats 8000000
theorem BG (b a:Nat) (hb:2≤b) (hl:(limbs a).length≤390):(dt b a).length≤12480:=by
 obtain ⟨E,hE⟩:∃ E,12480=E:=⟨_,rfl⟩
 rw [hE]
 refine WC b hb a E (by omega) ?_
 have h3:a<4294967296^(limbs a).length:=dX (Nat.le_refl _)
 have e0:(4294967296:Nat)=2^32:=rfl
 rw [e0,← Nat.pow_mul] at h3
 have h4:2^(32*(limbs a).length)≤2^E:=Nat.pow_le_pow_right (by decide) (by omega)
 have h5:2^E≤b^E:=Nat.pow_le_pow_left hb E
 omega
end Go.Proofs.YtfhcmggpojhegaaGreatDoor
namespace Go.Proofs.YtfhcmggpojhegaaGreatDoor
open Go.RowKit
set_option linter.all false
set_option maxRecDepth 100000
set_option maxHeartbeats 8000000
theorem Km {P:Program} {T:TypeId} {x y:Operand} {a b:Nat} (h0:b≠0) (_:a≤a) (X:World):Pl.Bn P .rem T x y (.int .u8 ((a:Nat):Int)) (.int .u8 ((b:Nat):Int)) X = .ok (.int .u8 ((a%b:Nat):Int)) X:=Pl.af9 (by omega) (Int.ofNat_tmod a b).symm X
/-! The head. -/
/-! Whole numbers. -/
/-! Digit sums. -/
theorem aeu (w:World) (c:Nat) (h:c<256):Calls Tryz.prog 54 #[.int .u8 (c:Nat)] w fun e w'=>e = .returned (.int .i64 ((sw c:Nat):Int))∧Ext w w' :=
 (Mc w c h).mono fun e w' ⟨he,hw⟩=>⟨he,by rw [hw];exact Ext.refl w⟩
theorem abd (m:Nat) (l:List Nat):l.sum%m=fF (m+1) l%m:=by
 induction l with
 | nil=>rfl
 | cons d l ih =>
  have h1:(m+1)^l.length%m=1%m:=by rw [Nat.pow_mod,Nat.add_mod_left,← Nat.pow_mod,Nat.one_pow]
  rw [WB,List.sum_cons,Nat.add_mod,ih,← Nat.add_mod d,Nat.add_mod d,Nat.add_mod (d*_),Nat.mul_mod d,h1,← Nat.mul_mod,Nat.mul_one]
theorem Dj {b m a:Nat} (hb:b-1=m) (h2:2≤b):ds b a%m=a%m:=by
 obtain rfl:b=m+1:=by omega
 rw [ds,abd,aet _ h2]
theorem abe {b m x y:Nat} (hb:b-1=m) (h2:2≤b):ds b (x*y)%m=ds b x%m*(ds b y%m)%m:=by
 rw [Dj hb h2,Dj hb h2,Dj hb h2,← Nat.mul_mod]
theorem abf {b m x y:Nat} (hb:b-1=m) (h2:2≤b):ds b (x+y)%m=(ds b x+ds b y)%m:=by
 rw [Dj hb h2,Nat.add_mod (ds b x),Dj hb h2,Dj hb h2,← Nat.add_mod]
theorem ajq {l:List Nat} {c:Nat} (h:∀ d∈l,d≤c):l.sum≤c*l.length:=by
 induction l with
 | nil=>simp
 | cons d l ih =>
  have h1:=ih fun x hx=>h x (by simp [hx])
  have h2:=h d (by simp)
  rw [List.sum_cons,List.length_cons,Nat.mul_succ]
  omega
theorem tN {b a:Nat} (h2:2≤b) (Tf:b≤36) (la:Sn a 100):ds b a≤436800:=by
 have h1:=ajq (l:=dt b a) (c:=35) fun d hd=>by have:=abb b h2 a d hd;omega
 have h3:=BG b a h2 (Nat.le_trans la (by decide))
 unfold ds
 omega
theorem abg {l:List Nat} {i:Nat} (h:i<l.length):(l.take (i+1)).sum=(l.take i).sum+lb l i:=by
 rw [List.take_add_one,List.sum_append,List.getElem?_eq_getElem h]
 have:lb l i=l[i]:=by rw [lb,List.getElem?_eq_getElem h];rfl
 rw [this]
 simp
theorem aev {l:List Nat} (i:Nat):(l.take i).sum≤l.sum:=by
 conv=>rhs;rw [← List.take_append_drop i l,List.sum_append]
 omega
section
variable {P:Program} {L:List Oper} {S:World→Prop} {K:List (Nat × Value)→World→Prop} {kk:Bool} {i m d:Nat} {o:Oper} {x y:Operand} {r:List (Bool × Nat × Nat)} {l:List (Nat × Value)} {w:World}
theorem aoH {t:TypeId} {n c:Nat} {T:ByteArray} (ht:P.underlying t=some .string) (hn:n<T.size) (hc:(T[n]'hn).toNat=c) (hS:S w) (ho:Pl.nth L i=some o) (hop:o.op = .index t x y) (hd:o.dst=some d) (hg:Pl.gd L l o.guard=some true) (hx:Pl.dF l x=some (.string T)) (hy:Pl.dF l y=some (.int .i64 ((n:Nat):Int)))
  (h:Pl.dO P L S K r ((d,.int .u8 ((c:Nat):Int))::l) w):Pl.dO P L S K ((kk,i,m)::r) l w :=
 Pl.dB hS ho hd hg (fun ρ hρ X _=>by
  unfold execOp;rw [hop]
  refine Pl.fJ _ X ?_
  rw [hρ.dF hx,hρ.dF hy,run_index_string X t T .i64 _ ht,dif_pos ⟨by omega,by omega⟩]
  subst hc
  have e:((n:Int)).toNat=n:=by omega
  simp only [e]) h
end
end Go.Proofs.YtfhcmggpojhegaaGreatDoor
namespace Go.Proofs.YtfhcmggpojhegaaGreatDoor
open Go.RowKit 
set_option linter.all false
set_option maxRecDepth 100000
set_option maxHeartbeats 8000000
theorem eu (w:World) (va:Value) (a b:Nat) (ha:Un w va a) (la:Sn a 100) (h2:2≤b) (Tf:b≤36) :
  Calls Tryz.prog 12 #[va,.int .i64 ((b:Nat):Int)] w fun e w'=>e = .returned (.int .u32 ((ds b a:Nat):Int))∧Pl.Ex w w':=by
 obtain ⟨TT,hTT⟩:∃ S,gD (dt b a)=S:=⟨_,rfl⟩
 have hTs:TT.size=(dt b a).length:=by rw [← hTT,mM]
 have hTl:=BG b a h2 (Nat.le_trans la (by decide))
 have hds:=tN h2 Tf la
 refine Pl.aZ (n:=29) (vs:=[va,.int .i64 ((b:Nat):Int)]) Tryz.func12 rfl (by kernel_rfl) (by simp) ?_
 repeat refine Pl.ay ?_
 refine Pl.ak (by kernel_rfl) ?_
 refine Pl.aG trivial rfl ?_
 refine Pl.aj ?_
 repeat refine Pl.ay ?_
 refine Pl.ak (by kernel_rfl) ?_
 refine Pl.aG trivial rfl ?_
 refine Pl.az rfl rfl rfl rfl rfl (fun u X=>Pl.enters Tryz.func41 (by kernel_rfl) rfl u X) ?_
 refine Calls.mono (FL _ _ a b ha (Nat.le_trans la (by decide)) (by omega) (by omega)) ?_
 rintro e w1 ⟨rfl,hE1⟩
 rw [hTT]
 have X0:=Pl.Ex.size hE1
 refine ⟨_,rfl,trivial,?_⟩
 refine Pl.aG trivial rfl ?_
 refine Pl.aj ?_
 repeat refine Pl.ay ?_
 refine Pl.ak (by kernel_rfl) ?_
 refine Pl.aG trivial rfl ?_
 refine Pl.aj ?_
 repeat refine Pl.ay ?_
 refine Pl.ak (by kernel_rfl) ?_
 refine Pl.aG trivial rfl ?_
 refine Pl.aj ?_
 repeat refine Pl.ay ?_
 refine Pl.dM ?_
 repeat refine Pl.ay ?_
 refine Pl.eF [(5,.string TT),(7,.int .u32 0),(8,.int .i64 0)] (Pl.aa rfl (Pl.aa rfl (Pl.aa rfl Pl.aI))) ?_
 repeat refine Pl.ay ?_
 refine Pl.pV (fun kq l' w'=>∃ i o,(dt b a).length-i=kq∧Pl.Ex w1 w'∧(i≤(dt b a).length)∧((List.take i (dt b a)).sum=o)∧l'=[(5,.string TT),(7,.int .u32 ((o:Nat):Int)),(8,.int .i64 ((i:Nat):Int))]) _ ⟨0,0,rfl,Pl.Ex.refl _,Nat.zero_le _,rfl,rfl⟩ ?_
 rintro kq _ w2 ⟨i,o,hk2,hE2,hi,ho,rfl⟩
 have WY:=Pl.Ex.size hE2
 repeat refine Pl.ay ?_
 refine Pl.ak (by kernel_rfl) ?_
 refine Pl.aG trivial rfl ?_
 refine Pl.aor Tryz.underlying9 trivial rfl rfl rfl rfl rfl ?_
 by_cases c1:i<TT.size
 · refine Pl.bV (v:=.bool true) (fun X=>Pl.JD (decide_eq_true (by omega)) X) trivial rfl rfl rfl rfl rfl rfl ?_
   refine Pl.aj ?_
   repeat refine Pl.ay ?_
   refine Pl.cK rfl ?_
   repeat refine Pl.ay ?_
   refine Pl.bM ?_
   repeat refine Pl.ay ?_
   refine Pl.dM ?_
   repeat refine Pl.ay ?_
   refine Pl.ak (by kernel_rfl) ?_
   have hlt:i<TT.size:=c1
   have hi2:i<(dt b a).length:=by omega
   obtain ⟨cc,hcc⟩:∃ c,(TT[i]'hlt).toNat=c:=⟨_,rfl⟩
   have F5:=abb b h2 a _ (Qy (dt b a) i hi2)
   have hcd:cc=jg (lb (dt b a) i):=by rw [← hcc];subst hTT;exact TW _ (fun d hd=>by have:=abb b h2 a d hd;omega) i hlt
   have hc6:cc<256:=by rw [hcd];have:=KH (d:=lb (dt b a) i) (by omega);omega
   obtain ⟨dg,hdg⟩:∃ d,sw cc=d:=⟨_,rfl⟩
   have auD:dg=lb (dt b a) i:=by rw [← hdg,hcd,Ju (by omega)]
   have aA5:dg<36:=by omega
   have hsum:o≤436800:=by rw [← ho];exact Nat.le_trans (aev i) hds
   refine Pl.aG trivial rfl ?_
   refine aoH (n:=i) (c:=cc) (T:=TT) Tryz.underlying9 hlt hcc trivial rfl rfl rfl rfl rfl rfl ?_
   refine Pl.az rfl rfl rfl rfl rfl (fun u X=>Pl.enters Tryz.func54 (by kernel_rfl) rfl u X) ?_
   refine Calls.mono (aeu _ cc (by omega)) ?_
   rintro e w3 ⟨rfl,bJ⟩
   rw [hdg]
   have TD:=Pl.Ex.size bJ
   refine ⟨_,rfl,trivial,?_⟩
   refine Pl.mP (c:=((dg:Nat):Int)) Tryz.underlying27 (by kernel_rfl) (Pl.sJ (a:=dg) rfl (Pl.w32 (by omega) (by omega))) trivial rfl rfl rfl rfl rfl ?_
   refine Pl.bV (v:=.int .u32 (((o+dg):Nat):Int)) (fun X=>zq (a:=o) (b:=dg) (by omega) X) trivial rfl rfl rfl rfl rfl rfl ?_
   refine Pl.aG trivial rfl ?_
   refine Pl.aj ?_
   refine Pl.dG ?_
   repeat refine Pl.ay ?_
   refine Pl.ak (by kernel_rfl) ?_
   refine Pl.aG trivial rfl ?_
   refine Pl.bV (v:=.int .i64 (((i+1):Nat):Int)) (fun X=>eX (a:=i) (b:=1) (by omega) X) trivial rfl rfl rfl rfl rfl rfl ?_
   refine Pl.aG trivial rfl ?_
   refine Pl.aj ?_
   repeat refine Pl.ay ?_
   refine Pl.jY (k':=(dt b a).length-(i+1)) [(5,.string TT),(7,.int .u32 (((o+dg):Nat):Int)),(8,.int .i64 (((i+1):Nat):Int))] (Pl.aa rfl (Pl.aa rfl (Pl.aa rfl Pl.aI))) (by omega) ⟨(i+1),(o+dg),rfl,(Pl.Ex.trans hE2 bJ),by omega,by rw [abg hi2,ho,auD],rfl⟩
 · refine Pl.bV (v:=.bool false) (fun X=>Pl.JD (decide_eq_false (by omega)) X) trivial rfl rfl rfl rfl rfl rfl ?_
   refine Pl.aj ?_
   repeat refine Pl.ay ?_
   refine Pl.bn rfl ?_
   repeat refine Pl.ay ?_
   refine Pl.lD ?_
   have hfin:o=ds b a:=by rw [← ho,List.take_of_length_le (by omega)];rfl
   repeat refine Pl.ay ?_
   refine Pl.ak (by kernel_rfl) ?_
   refine Pl.aG trivial rfl ?_
   refine Pl.aj ?_
   repeat refine Pl.ay ?_
   exact Pl.bI rfl rfl  (⟨by rw [hfin],(Pl.Ex.trans hE1 hE2)⟩)
theorem Dk (w:World) (hg:Gl w) (r0:Value) (xa:List Nat) (u0:U w r0 xa) (r1:Value) (xb:List Nat) (u1:U w r1 xb) (n:Nat) (hn:n<256) (way:Nat) (aA6:way<256) :
  Calls Tryz.prog 3 #[.agg #[r0,r1],.int .u8 ((n:Nat):Int),.int .u8 ((way:Nat):Int)] w fun e w'=>e = .returned (.bool true)∧Ext w w':=by
 obtain ⟨a,da⟩:∃ q,lF xa 40=q:=⟨_,rfl⟩
 have la:Sn a 40:=by rw [← da];exact jS xa 40 u0.lim
 obtain ⟨b,db⟩:∃ q,lF xb 40=q:=⟨_,rfl⟩
 have lb:Sn b 40:=by rw [← db];exact jS xb 40 u1.lim
 obtain ⟨bs,qbs⟩:∃ q,3+n%34=q:=⟨_,rfl⟩
 have gbs:3≤bs∧bs≤36:=by omega
 obtain ⟨m,qm⟩:∃ q,bs-1=q:=⟨_,rfl⟩
 have gm:2≤m∧m≤35:=by omega
 refine Pl.aZ (n:=77) (vs:=[.agg #[r0,r1],.int .u8 ((n:Nat):Int),.int .u8 ((way:Nat):Int)]) Tryz.func3 rfl (by kernel_rfl) (by simp) ?_
 repeat refine Pl.ay ?_
 refine Pl.ak (by kernel_rfl) ?_
 refine Pl.AR (cs:=[r0,r1]) rfl rfl rfl rfl rfl rfl (fun Y hY=>trivial) ?_
 intro N1 w1 hE1 Uc jF
 have uU:=Pl.Cb.lt jF
 have X0:=Pl.Ex.size hE1
 refine Pl.aG trivial rfl ?_
 refine Pl.aj ?_
 repeat refine Pl.ay ?_
 refine Pl.ak (by kernel_rfl) ?_
 refine Pl.az rfl rfl rfl rfl rfl (fun u X=>Pl.enters Tryz.func8 (by kernel_rfl) rfl u X) ?_
 refine Calls.mono (pF _) ?_
 rintro e w2 ⟨rfl,hE2⟩
 have WY:=Pl.Ex.size hE2
 refine ⟨_,rfl,trivial,?_⟩
 refine Pl.aG trivial rfl ?_
 refine Pl.aj ?_
 repeat refine Pl.ay ?_
 refine Pl.ak (by kernel_rfl) ?_
 refine Pl.sU (s:=1) (j:=0) Tryz.underlying23 (by kernel_rfl) rfl (by omega) trivial rfl rfl rfl rfl rfl rfl ?_
 refine Pl.oI (v:=r0) Tryz.underlying22 rfl (Pl.Cb.at (j:=0) (Pl.Cb.ex jF hE2) rfl) trivial rfl rfl rfl rfl rfl ?_
 refine Pl.az rfl rfl rfl rfl rfl (fun u X=>Pl.enters Tryz.func9 (by kernel_rfl) rfl u X) ?_
 refine Calls.mono (nA _ _ xa 40 (U.below u0 (Pl.Ex.trans hE1 hE2)) (by decide) (by decide) a da) ?_
 rintro e w3 ⟨v2,rfl,hv2,bJ⟩
 have TD:=Pl.Ex.size bJ
 refine ⟨_,rfl,trivial,?_⟩
 refine Pl.aG trivial rfl ?_
 refine Pl.aj ?_
 repeat refine Pl.ay ?_
 refine Pl.ak (by kernel_rfl) ?_
 refine Pl.sU (s:=1) (j:=1) Tryz.underlying23 (by kernel_rfl) rfl (by omega) trivial rfl rfl rfl rfl rfl rfl ?_
 refine Pl.oI (v:=r1) Tryz.underlying22 rfl (Pl.Cb.at (j:=1) (Pl.Cb.ex jF (Pl.Ex.trans hE2 bJ)) rfl) trivial rfl rfl rfl rfl rfl ?_
 refine Pl.az rfl rfl rfl rfl rfl (fun u X=>Pl.enters Tryz.func9 (by kernel_rfl) rfl u X) ?_
 refine Calls.mono (nA _ _ xb 40 (U.below u1 (Pl.Ex.trans hE1 (Pl.Ex.trans hE2 bJ))) (by decide) (by decide) b db) ?_
 rintro e w4 ⟨v3,rfl,hv3,bX⟩
 have TH:=Pl.Ex.size bX
 refine ⟨_,rfl,trivial,?_⟩
 refine Pl.aG trivial rfl ?_
 refine Pl.aj ?_
 repeat refine Pl.ay ?_
 refine Pl.ak (by kernel_rfl) ?_
 refine Pl.aG trivial rfl ?_
 refine Pl.bV (v:=.int .u8 (((n%34):Nat):Int)) (fun X=>Km (a:=n) (b:=34) (by omega) (by omega) X) trivial rfl rfl rfl rfl rfl rfl ?_
 refine Pl.mP (c:=(((n%34):Nat):Int)) Tryz.underlying3 (by kernel_rfl) (Pl.sJ (a:=(n%34)) rfl (Pl.Ep (by omega) (by omega))) trivial rfl rfl rfl rfl rfl ?_
 refine Pl.bV (v:=.int .i64 ((bs:Nat):Int)) (fun X=>Pl.Bn.as (eX (a:=3) (b:=(n%34)) (by omega)) (by rw [qbs]) X) trivial rfl rfl rfl rfl rfl rfl ?_
 refine Pl.aG trivial rfl ?_
 refine Pl.aj ?_
 repeat refine Pl.ay ?_
 refine Pl.ak (by kernel_rfl) ?_
 refine Pl.aG trivial rfl ?_
 refine Pl.az rfl rfl rfl rfl rfl (fun u X=>Pl.enters Tryz.func10 (by kernel_rfl) rfl u X) ?_
 refine Calls.mono (ajo _ _ _ a b _ (hg.ext (Pl.Ex.trans hE1 (Pl.Ex.trans hE2 (Pl.Ex.trans bJ bX)))) (Un.below hv2 bX) hv3 (Sn.le la (by decide)) (Sn.le lb (by decide)) rfl) ?_
 rintro e w5 ⟨v4,rfl,hv4,bE⟩
 have Mw:=Pl.Ex.size bE
 refine ⟨_,rfl,trivial,?_⟩
 refine Pl.aG trivial rfl ?_
 refine Pl.aj ?_
 repeat refine Pl.ay ?_
 refine Pl.ak (by kernel_rfl) ?_
 refine Pl.aG trivial rfl ?_
 refine Pl.bV (v:=.int .u8 (((way%2):Nat):Int)) (fun X=>Km (a:=way) (b:=2) (by omega) (by omega) X) trivial rfl rfl rfl rfl rfl rfl ?_
 by_cases c5:(way%2)=0
 · refine Pl.bV (v:=.bool true) (fun X=>Pl.gL (Pl.e_t (by omega)) X) trivial rfl rfl rfl rfl rfl rfl ?_
   refine Pl.aj ?_
   repeat refine Pl.ay ?_
   refine Pl.cK rfl ?_
   repeat refine Pl.ay ?_
   refine Pl.ak (by kernel_rfl) ?_
   refine Pl.aG trivial rfl ?_
   refine Pl.az rfl rfl rfl rfl rfl (fun u X=>Pl.enters Tryz.func11 (by kernel_rfl) rfl u X) ?_
   refine Calls.mono (ajp _ _ _ a b _ (hg.ext (Pl.Ex.trans hE1 (Pl.Ex.trans hE2 (Pl.Ex.trans bJ (Pl.Ex.trans bX bE))))) (Un.below hv2 (Pl.Ex.trans bX bE)) (Un.below hv3 bE) (Sn.le la (by decide)) (Sn.le lb (by decide)) rfl) ?_
   rintro e w6 ⟨v6,rfl,hv6,bu⟩
   have Cj:=Pl.Ex.size bu
   refine ⟨_,rfl,trivial,?_⟩
   refine Pl.aG trivial rfl ?_
   refine Pl.aj ?_
   repeat refine Pl.ay ?_
   refine Pl.ak (by kernel_rfl) ?_
   refine Pl.aG trivial rfl ?_
   refine Pl.bV (v:=.int .i64 ((m:Nat):Int)) (fun X=>Pl.Bn.as (Ii (a:=bs) (b:=1) (by omega)) (by rw [qm]) X) trivial rfl rfl rfl rfl rfl rfl ?_
   refine Pl.mP (c:=((m:Nat):Int)) Tryz.underlying27 (by kernel_rfl) (Pl.sJ (a:=m) rfl (Pl.w32 (by omega) (by omega))) trivial rfl rfl rfl rfl rfl ?_
   refine Pl.aG trivial rfl ?_
   refine Pl.aj ?_
   repeat refine Pl.ay ?_
   refine Pl.iJ (S:=fun X=>Pl.Ex w6 X) [(true,0,0),(true,1,1),(true,2,3),(true,3,7),(true,5,15),(true,7,47),(true,8,175),(true,10,431),(true,12,1455),(true,13,5551),(true,15,13743),(true,18,46511),(false,4,308655),(true,6,308671),(false,9,308735),(true,11,309247),(false,14,311295),(true,16,327679),(true,17,393215),(true,19,524287),(true,20,1048575),(true,21,2097151),(true,22,4194303),(true,23,8388607),(true,24,16777215),(true,26,33554431),(true,28,100663295),(true,30,369098751),(true,31,1442840575),(true,33,3590324223),(true,34,12180258815),(true,37,29360127999),(false,25,166799081471),(false,27,166832635903),(true,29,166966853631),(false,32,167503724543),(false,35,171798691839),(true,36,206158430207),(true,38,274877906943),(true,39,549755813887),(true,40,1099511627775),(true,41,2199023255551)] fo Pl.aB (by kernel_rfl) (Pl.Ex.trans (Pl.Ex.refl _) (Pl.Ex.drew _)) ?_
   have cB:=Pl.Ex.drew w6
   generalize w6.drew=w7 at *
   have zS:=Pl.Ex.size cB
   intro iK
   refine Pl.aG iK rfl ?_
   refine Pl.az rfl rfl rfl rfl rfl (fun u X=>Pl.enters Tryz.func12 (by kernel_rfl) rfl u X) ?_
   refine Calls.mono (eu _ _ (a*b) bs (Un.below hv6 cB) (Sn.le (Sn.mul la lb (by decide):Sn (a*b) 80) (by decide)) (by omega) (by omega)) ?_
   rintro e w8 ⟨rfl,dL⟩
   have hd7:=tN (b:=bs) (a:=(a*b)) (by omega) (by omega) (Sn.le (Sn.mul la lb (by decide):Sn (a*b) 80) (by decide))
   have xg:=Pl.Ex.size dL
   have jk:=Pl.Ex.trans iK dL
   refine ⟨_,rfl,jk,?_⟩
   refine Pl.bV (v:=.int .u32 ((((ds bs (a*b))%m):Nat):Int)) (fun X=>gZ (a:=(ds bs (a*b))) (b:=m) (by omega) (by omega) X) jk rfl rfl rfl rfl rfl rfl ?_
   refine Pl.az rfl rfl rfl rfl rfl (fun u X=>Pl.enters Tryz.func12 (by kernel_rfl) rfl u X) ?_
   refine Calls.mono (eu _ _ a bs (Un.below hv2 (Pl.Ex.trans bX (Pl.Ex.trans bE (Pl.Ex.trans bu (Pl.Ex.trans cB dL))))) (Sn.le la (by decide)) (by omega) (by omega)) ?_
   rintro e w9 ⟨rfl,fu⟩
   have hd8:=tN (b:=bs) (a:=a) (by omega) (by omega) (Sn.le la (by decide))
   have PV:=Pl.Ex.size fu
   have nK:=Pl.Ex.trans jk fu
   refine ⟨_,rfl,nK,?_⟩
   refine Pl.bV (v:=.int .u32 ((((ds bs a)%m):Nat):Int)) (fun X=>gZ (a:=(ds bs a)) (b:=m) (by omega) (by omega) X) nK rfl rfl rfl rfl rfl rfl ?_
   refine Pl.az rfl rfl rfl rfl rfl (fun u X=>Pl.enters Tryz.func12 (by kernel_rfl) rfl u X) ?_
   refine Calls.mono (eu _ _ b bs (Un.below hv3 (Pl.Ex.trans bE (Pl.Ex.trans bu (Pl.Ex.trans cB (Pl.Ex.trans dL fu))))) (Sn.le lb (by decide)) (by omega) (by omega)) ?_
   rintro e uY ⟨rfl,cZ⟩
   have hd9:=tN (b:=bs) (a:=b) (by omega) (by omega) (Sn.le lb (by decide))
   have yH:=Pl.Ex.size cZ
   have fQ:=Pl.Ex.trans nK cZ
   refine ⟨_,rfl,fQ,?_⟩
   refine Pl.bV (v:=.int .u32 ((((ds bs b)%m):Nat):Int)) (fun X=>gZ (a:=(ds bs b)) (b:=m) (by omega) (by omega) X) fQ rfl rfl rfl rfl rfl rfl ?_
   refine Pl.bV (v:=.int .u32 (((((ds bs a)%m)*((ds bs b)%m)):Nat):Int)) (fun X=>Ij (a:=((ds bs a)%m)) (b:=((ds bs b)%m)) (by have h1:=Nat.mod_lt (ds bs a) (show 0<m by omega);have h2:=Nat.mod_lt (ds bs b) (show 0<m by omega);have:=Nat.mul_le_mul (show ds bs a%m≤34 by omega) (show ds bs b%m≤34 by omega);omega) X) fQ rfl rfl rfl rfl rfl rfl ?_
   refine Pl.bV (v:=.int .u32 ((((((ds bs a)%m)*((ds bs b)%m))%m):Nat):Int)) (fun X=>gZ (a:=(((ds bs a)%m)*((ds bs b)%m))) (b:=m) (by omega) (by omega) X) fQ rfl rfl rfl rfl rfl rfl ?_
   have ajr:((ds bs (a*b))%m)=((((ds bs a)%m)*((ds bs b)%m))%m):=(abe qm (by omega))
   refine Pl.bV (v:=.bool true) (fun X=>Pl.gL (Pl.e_t (by omega)) X) fQ rfl rfl rfl rfl rfl rfl ?_
   refine Pl.aG fQ rfl ?_
   refine Pl.az rfl rfl rfl rfl rfl (fun u X=>Pl.enters Tryz.func13 (by kernel_rfl) rfl u X) ?_
   refine Calls.mono (jA _ _ _ a b (Un.below hv2 (Pl.Ex.trans bX (Pl.Ex.trans bE (Pl.Ex.trans bu (Pl.Ex.trans cB (Pl.Ex.trans dL (Pl.Ex.trans fu cZ))))))) (Un.below hv3 (Pl.Ex.trans bE (Pl.Ex.trans bu (Pl.Ex.trans cB (Pl.Ex.trans dL (Pl.Ex.trans fu cZ)))))) (Sn.le la (by decide)) (Sn.le lb (by decide)) _ rfl) ?_
   rintro e BU ⟨v10,rfl,nP,dw⟩
   have xR:=Pl.Ex.size dw
   have jD:=Pl.Ex.trans fQ dw
   refine ⟨_,rfl,jD,?_⟩
   refine Pl.az rfl rfl rfl rfl rfl (fun u X=>Pl.enters Tryz.func12 (by kernel_rfl) rfl u X) ?_
   refine Calls.mono (eu _ _ (a+b) bs nP (Sn.le (Sn.add la lb (by decide) (by decide):Sn (a+b) 41) (by decide)) (by omega) (by omega)) ?_
   rintro e w12 ⟨rfl,fV⟩
   have auE:=tN (b:=bs) (a:=(a+b)) (by omega) (by omega) (Sn.le (Sn.add la lb (by decide) (by decide):Sn (a+b) 41) (by decide))
   have Fw:=Pl.Ex.size fV
   have WE:=Pl.Ex.trans jD fV
   refine ⟨_,rfl,WE,?_⟩
   refine Pl.bV (v:=.int .u32 ((((ds bs (a+b))%m):Nat):Int)) (fun X=>gZ (a:=(ds bs (a+b))) (b:=m) (by omega) (by omega) X) WE rfl rfl rfl rfl rfl rfl ?_
   refine Pl.az rfl rfl rfl rfl rfl (fun u X=>Pl.enters Tryz.func12 (by kernel_rfl) rfl u X) ?_
   refine Calls.mono (eu _ _ a bs (Un.below hv2 (Pl.Ex.trans bX (Pl.Ex.trans bE (Pl.Ex.trans bu (Pl.Ex.trans cB (Pl.Ex.trans dL (Pl.Ex.trans fu (Pl.Ex.trans cZ (Pl.Ex.trans dw fV))))))))) (Sn.le la (by decide)) (by omega) (by omega)) ?_
   rintro e IZ ⟨rfl,dh⟩
   have aew:=tN (b:=bs) (a:=a) (by omega) (by omega) (Sn.le la (by decide))
   have Fx:=Pl.Ex.size dh
   have OH:=Pl.Ex.trans WE dh
   refine ⟨_,rfl,OH,?_⟩
   refine Pl.az rfl rfl rfl rfl rfl (fun u X=>Pl.enters Tryz.func12 (by kernel_rfl) rfl u X) ?_
   refine Calls.mono (eu _ _ b bs (Un.below hv3 (Pl.Ex.trans bE (Pl.Ex.trans bu (Pl.Ex.trans cB (Pl.Ex.trans dL (Pl.Ex.trans fu (Pl.Ex.trans cZ (Pl.Ex.trans dw (Pl.Ex.trans fV dh))))))))) (Sn.le lb (by decide)) (by omega) (by omega)) ?_
   rintro e Qf ⟨rfl,bZ⟩
   have aA9:=tN (b:=bs) (a:=b) (by omega) (by omega) (Sn.le lb (by decide))
   have FK:=Pl.Ex.size bZ
   have qF:=Pl.Ex.trans OH bZ
   refine ⟨_,rfl,qF,?_⟩
   refine Pl.bV (v:=.int .u32 ((((ds bs a)+(ds bs b)):Nat):Int)) (fun X=>zq (a:=(ds bs a)) (b:=(ds bs b)) (by omega) X) qF rfl rfl rfl rfl rfl rfl ?_
   refine Pl.bV (v:=.int .u32 (((((ds bs a)+(ds bs b))%m):Nat):Int)) (fun X=>gZ (a:=((ds bs a)+(ds bs b))) (b:=m) (by omega) (by omega) X) qF rfl rfl rfl rfl rfl rfl ?_
   have ajs:((ds bs (a+b))%m)=(((ds bs a)+(ds bs b))%m):=(abf qm (by omega))
   refine Pl.bV (v:=.bool true) (fun X=>Pl.gL (Pl.e_t (by omega)) X) qF rfl rfl rfl rfl rfl rfl ?_
   refine Pl.aG qF rfl ?_
   refine Pl.aj ?_
   repeat refine Pl.ay ?_
   exact Pl.bI rfl rfl  (⟨rfl,(Pl.Ex.trans hE1 (Pl.Ex.trans hE2 (Pl.Ex.trans bJ (Pl.Ex.trans bX (Pl.Ex.trans bE (Pl.Ex.trans bu (Pl.Ex.trans cB (Pl.Ex.trans dL (Pl.Ex.trans fu (Pl.Ex.trans cZ (Pl.Ex.trans dw (Pl.Ex.trans fV (Pl.Ex.trans dh bZ)))))))))))))⟩)
 · refine Pl.bV (v:=.bool false) (fun X=>Pl.gL (Pl.e_f (by omega)) X) trivial rfl rfl rfl rfl rfl rfl ?_
   refine Pl.aj ?_
   repeat refine Pl.ay ?_
   refine Pl.bn rfl ?_
   repeat refine Pl.ay ?_
   refine Pl.bM ?_
   repeat refine Pl.ay ?_
   refine Pl.ak (by kernel_rfl) ?_
   refine Pl.aG trivial rfl ?_
   refine Pl.bV (v:=.int .i64 ((m:Nat):Int)) (fun X=>Pl.Bn.as (Ii (a:=bs) (b:=1) (by omega)) (by rw [qm]) X) trivial rfl rfl rfl rfl rfl rfl ?_
   refine Pl.mP (c:=((m:Nat):Int)) Tryz.underlying27 (by kernel_rfl) (Pl.sJ (a:=m) rfl (Pl.w32 (by omega) (by omega))) trivial rfl rfl rfl rfl rfl ?_
   refine Pl.aG trivial rfl ?_
   refine Pl.aj ?_
   repeat refine Pl.ay ?_
   refine Pl.iJ (S:=fun X=>Pl.Ex w5 X) [(true,0,0),(true,1,1),(true,2,3),(true,3,7),(true,5,15),(true,7,47),(true,8,175),(true,10,431),(true,12,1455),(true,13,5551),(true,15,13743),(true,18,46511),(false,4,308655),(true,6,308671),(false,9,308735),(true,11,309247),(false,14,311295),(true,16,327679),(true,17,393215),(true,19,524287),(true,20,1048575),(true,21,2097151),(true,22,4194303),(true,23,8388607),(true,24,16777215),(true,26,33554431),(true,28,100663295),(true,30,369098751),(true,31,1442840575),(true,33,3590324223),(true,34,12180258815),(true,37,29360127999),(false,25,166799081471),(false,27,166832635903),(true,29,166966853631),(false,32,167503724543),(false,35,171798691839),(true,36,206158430207),(true,38,274877906943),(true,39,549755813887),(true,40,1099511627775),(true,41,2199023255551)] fo Pl.aB (by kernel_rfl) (Pl.Ex.trans (Pl.Ex.refl _) (Pl.Ex.drew _)) ?_
   have bu:=Pl.Ex.drew w5
   generalize w5.drew=w6 at *
   have Cj:=Pl.Ex.size bu
   intro gP
   refine Pl.aG gP rfl ?_
   refine Pl.az rfl rfl rfl rfl rfl (fun u X=>Pl.enters Tryz.func12 (by kernel_rfl) rfl u X) ?_
   refine Calls.mono (eu _ _ (a*b) bs (Un.below hv4 bu) (Sn.le (Sn.mul la lb (by decide):Sn (a*b) 80) (by decide)) (by omega) (by omega)) ?_
   rintro e w7 ⟨rfl,cB⟩
   have hd6:=tN (b:=bs) (a:=(a*b)) (by omega) (by omega) (Sn.le (Sn.mul la lb (by decide):Sn (a*b) 80) (by decide))
   have zS:=Pl.Ex.size cB
   have iK:=Pl.Ex.trans gP cB
   refine ⟨_,rfl,iK,?_⟩
   refine Pl.bV (v:=.int .u32 ((((ds bs (a*b))%m):Nat):Int)) (fun X=>gZ (a:=(ds bs (a*b))) (b:=m) (by omega) (by omega) X) iK rfl rfl rfl rfl rfl rfl ?_
   refine Pl.az rfl rfl rfl rfl rfl (fun u X=>Pl.enters Tryz.func12 (by kernel_rfl) rfl u X) ?_
   refine Calls.mono (eu _ _ a bs (Un.below hv2 (Pl.Ex.trans bX (Pl.Ex.trans bE (Pl.Ex.trans bu cB)))) (Sn.le la (by decide)) (by omega) (by omega)) ?_
   rintro e w8 ⟨rfl,dL⟩
   have hd7:=tN (b:=bs) (a:=a) (by omega) (by omega) (Sn.le la (by decide))
   have xg:=Pl.Ex.size dL
   have jk:=Pl.Ex.trans iK dL
   refine ⟨_,rfl,jk,?_⟩
   refine Pl.bV (v:=.int .u32 ((((ds bs a)%m):Nat):Int)) (fun X=>gZ (a:=(ds bs a)) (b:=m) (by omega) (by omega) X) jk rfl rfl rfl rfl rfl rfl ?_
   refine Pl.az rfl rfl rfl rfl rfl (fun u X=>Pl.enters Tryz.func12 (by kernel_rfl) rfl u X) ?_
   refine Calls.mono (eu _ _ b bs (Un.below hv3 (Pl.Ex.trans bE (Pl.Ex.trans bu (Pl.Ex.trans cB dL)))) (Sn.le lb (by decide)) (by omega) (by omega)) ?_
   rintro e w9 ⟨rfl,fu⟩
   have hd8:=tN (b:=bs) (a:=b) (by omega) (by omega) (Sn.le lb (by decide))
   have PV:=Pl.Ex.size fu
   have nK:=Pl.Ex.trans jk fu
   refine ⟨_,rfl,nK,?_⟩
   refine Pl.bV (v:=.int .u32 ((((ds bs b)%m):Nat):Int)) (fun X=>gZ (a:=(ds bs b)) (b:=m) (by omega) (by omega) X) nK rfl rfl rfl rfl rfl rfl ?_
   refine Pl.bV (v:=.int .u32 (((((ds bs a)%m)*((ds bs b)%m)):Nat):Int)) (fun X=>Ij (a:=((ds bs a)%m)) (b:=((ds bs b)%m)) (by have h1:=Nat.mod_lt (ds bs a) (show 0<m by omega);have h2:=Nat.mod_lt (ds bs b) (show 0<m by omega);have:=Nat.mul_le_mul (show ds bs a%m≤34 by omega) (show ds bs b%m≤34 by omega);omega) X) nK rfl rfl rfl rfl rfl rfl ?_
   refine Pl.bV (v:=.int .u32 ((((((ds bs a)%m)*((ds bs b)%m))%m):Nat):Int)) (fun X=>gZ (a:=(((ds bs a)%m)*((ds bs b)%m))) (b:=m) (by omega) (by omega) X) nK rfl rfl rfl rfl rfl rfl ?_
   have ajr:((ds bs (a*b))%m)=((((ds bs a)%m)*((ds bs b)%m))%m):=(abe qm (by omega))
   refine Pl.bV (v:=.bool true) (fun X=>Pl.gL (Pl.e_t (by omega)) X) nK rfl rfl rfl rfl rfl rfl ?_
   refine Pl.aG nK rfl ?_
   refine Pl.az rfl rfl rfl rfl rfl (fun u X=>Pl.enters Tryz.func13 (by kernel_rfl) rfl u X) ?_
   refine Calls.mono (jA _ _ _ a b (Un.below hv2 (Pl.Ex.trans bX (Pl.Ex.trans bE (Pl.Ex.trans bu (Pl.Ex.trans cB (Pl.Ex.trans dL fu)))))) (Un.below hv3 (Pl.Ex.trans bE (Pl.Ex.trans bu (Pl.Ex.trans cB (Pl.Ex.trans dL fu))))) (Sn.le la (by decide)) (Sn.le lb (by decide)) _ rfl) ?_
   rintro e uY ⟨v9,rfl,xk,cZ⟩
   have yH:=Pl.Ex.size cZ
   have fQ:=Pl.Ex.trans nK cZ
   refine ⟨_,rfl,fQ,?_⟩
   refine Pl.az rfl rfl rfl rfl rfl (fun u X=>Pl.enters Tryz.func12 (by kernel_rfl) rfl u X) ?_
   refine Calls.mono (eu _ _ (a+b) bs xk (Sn.le (Sn.add la lb (by decide) (by decide):Sn (a+b) 41) (by decide)) (by omega) (by omega)) ?_
   rintro e BU ⟨rfl,dw⟩
   have aA':=tN (b:=bs) (a:=(a+b)) (by omega) (by omega) (Sn.le (Sn.add la lb (by decide) (by decide):Sn (a+b) 41) (by decide))
   have xR:=Pl.Ex.size dw
   have jD:=Pl.Ex.trans fQ dw
   refine ⟨_,rfl,jD,?_⟩
   refine Pl.bV (v:=.int .u32 ((((ds bs (a+b))%m):Nat):Int)) (fun X=>gZ (a:=(ds bs (a+b))) (b:=m) (by omega) (by omega) X) jD rfl rfl rfl rfl rfl rfl ?_
   refine Pl.az rfl rfl rfl rfl rfl (fun u X=>Pl.enters Tryz.func12 (by kernel_rfl) rfl u X) ?_
   refine Calls.mono (eu _ _ a bs (Un.below hv2 (Pl.Ex.trans bX (Pl.Ex.trans bE (Pl.Ex.trans bu (Pl.Ex.trans cB (Pl.Ex.trans dL (Pl.Ex.trans fu (Pl.Ex.trans cZ dw)))))))) (Sn.le la (by decide)) (by omega) (by omega)) ?_
   rintro e w12 ⟨rfl,fV⟩
   have auE:=tN (b:=bs) (a:=a) (by omega) (by omega) (Sn.le la (by decide))
   have Fw:=Pl.Ex.size fV
   have WE:=Pl.Ex.trans jD fV
   refine ⟨_,rfl,WE,?_⟩
   refine Pl.az rfl rfl rfl rfl rfl (fun u X=>Pl.enters Tryz.func12 (by kernel_rfl) rfl u X) ?_
   refine Calls.mono (eu _ _ b bs (Un.below hv3 (Pl.Ex.trans bE (Pl.Ex.trans bu (Pl.Ex.trans cB (Pl.Ex.trans dL (Pl.Ex.trans fu (Pl.Ex.trans cZ (Pl.Ex.trans dw fV)))))))) (Sn.le lb (by decide)) (by omega) (by omega)) ?_
   rintro e IZ ⟨rfl,dh⟩
   have aew:=tN (b:=bs) (a:=b) (by omega) (by omega) (Sn.le lb (by decide))
   have Fx:=Pl.Ex.size dh
   have OH:=Pl.Ex.trans WE dh
   refine ⟨_,rfl,OH,?_⟩
   refine Pl.bV (v:=.int .u32 ((((ds bs a)+(ds bs b)):Nat):Int)) (fun X=>zq (a:=(ds bs a)) (b:=(ds bs b)) (by omega) X) OH rfl rfl rfl rfl rfl rfl ?_
   refine Pl.bV (v:=.int .u32 (((((ds bs a)+(ds bs b))%m):Nat):Int)) (fun X=>gZ (a:=((ds bs a)+(ds bs b))) (b:=m) (by omega) (by omega) X) OH rfl rfl rfl rfl rfl rfl ?_
   have ajs:((ds bs (a+b))%m)=(((ds bs a)+(ds bs b))%m):=(abf qm (by omega))
   refine Pl.bV (v:=.bool true) (fun X=>Pl.gL (Pl.e_t (by omega)) X) OH rfl rfl rfl rfl rfl rfl ?_
   refine Pl.aG OH rfl ?_
   refine Pl.aj ?_
   repeat refine Pl.ay ?_
   exact Pl.bI rfl rfl  (⟨rfl,(Pl.Ex.trans hE1 (Pl.Ex.trans hE2 (Pl.Ex.trans bJ (Pl.Ex.trans bX (Pl.Ex.trans bE (Pl.Ex.trans bu (Pl.Ex.trans cB (Pl.Ex.trans dL (Pl.Ex.trans fu (Pl.Ex.trans cZ (Pl.Ex.trans dw (Pl.Ex.trans fV dh))))))))))))⟩)
end Go.Proofs.YtfhcmggpojhegaaGreatDoor
namespace Go.Proofs.YtfhcmggpojhegaaGreatDoor
open Go.ChangeShapes Go.WideShapes Go.ChangeAt Go.RowKit
set_option linter.all false
set_option maxRecDepth 100000
set_option maxHeartbeats 8000000
abbrev jo:List (String × DataW Unit):=[("unicode/utf8.acceptRanges",Rows.laid_unicode_utf8_acceptRanges),("ziggurat/ntt.fields",Rows.laid_ziggurat_ntt_fields),("unicode/utf8.first",Rows.laid_unicode_utf8_first)]
theorem qI (os:Os) (args:Array Value):laidMetH Tryz.prog jo ((World.laidAll Tryz.prog os jo).forCall (fun _ _=>0) ⟨#[],args,[]⟩).memory:=by
 rw [MakeChecks.laidMetH_plain _ _ _ (by kernel_rfl)]
 exact laidMet_laidAll _ (by kernel_rfl) (by kernel_rfl)
end Go.Proofs.YtfhcmggpojhegaaGreatDoor
namespace Go.Proofs.YtfhcmggpojhegaaGreatDoor
open Go.ChangeShapes Go.WideShapes Go.ChangeAt Go.RowKit
set_option linter.all false
set_option maxRecDepth 100000
set_option maxHeartbeats 8000000
theorem OI {W:World} (h:laidMetH Tryz.prog jo W):Gl W:=by
 rw [MakeChecks.laidMetH_plain _ _ _ (by kernel_rfl)] at h
 obtain ⟨ps,⟨_,_,_,_,_,_,_,_,_,_,⟨g0,t0,cs0,f0,p0,q0,hg0,ht0,hv0,hd0,_,_⟩,_⟩,_⟩:=h
 obtain rfl:=Option.some.inj (aun.symm.trans hg0)
 obtain rfl:=Option.some.inj (auo.symm.trans ht0)
 obtain ⟨xs,m1,rfl,hx1,hlen,hn3,hel⟩:=DataW.trod_array Tryz.underlying152 hd0
 rw [aa6] at hlen
 simp only [Uk] at hel
 match xs,hn3,hx1,hel with
 | [x0,x1,x2],_,hx1,hel =>
  have e0:=hel 0 (by decide)
  have e1:=hel 1 (by decide)
  have e2:=hel 2 (by decide)
  simp at e0 e1 e2
  obtain ⟨a0,b0,c0,d0,f0,k0,j0⟩:=zo e0
  obtain ⟨a1,b1,c1,d1,f1,k1,j1⟩:=zo e1
  obtain ⟨a2,b2,c2,d2,f2,k2,j2⟩:=zo e2
  simp only [Prod.mk.injEq,DataW.agg.injEq,List.map_cons,List.map_nil,Rows.laid_ziggurat_ntt_fields,List.cons.injEq,j0,j1,j2,DataW.lit.injEq,Lit.int.injEq,and_true,true_and] at hx1
  obtain ⟨⟨⟨rfl,rfl,rfl,rfl,rfl⟩,⟨rfl,rfl,rfl,rfl,rfl⟩,⟨rfl,rfl,rfl,rfl,rfl⟩⟩,_⟩:=hx1
  obtain ⟨l⟩:=cs0
  have auF:l=[.int .u32 998244353,.int .u32 3,.int .u32 998244351,.int .u32 932051910,.int .u32 0,.int .u32 469762049,.int .u32 3,.int .u32 469762047,.int .u32 460175152,.int .u32 305718167,.int .u32 167772161,.int .u32 3,.int .u32 167772159,.int .u32 40265974,.int .u32 115614034]:=by
   have e:l=l.take 5++((l.drop 5).take 5++(l.drop 10).take 5):=by
    have h10:l.drop 10=(l.drop 5).drop 5:=by rw [List.drop_drop]
    have h5:(l.drop 10).take 5=l.drop 10:=List.take_of_length_le (by simp at hlen;simp [hlen])
    rw [h5,h10,List.take_append_drop,List.take_append_drop]
   rw [e,k0,k1,k2];rfl
  subst auF
  have hc:=fun k=>World.var?_cell hg0 hv0 k
  refine ⟨?_,⟨hc 0,hc 1,hc 2,hc 3,hc 4⟩,⟨hc 5,hc 6,hc 7,hc 8,hc 9⟩,⟨hc 10,hc 11,hc 12,hc 13,hc 14⟩⟩
  have:=World.block_lt_of_cell? W ⟨0,0,none⟩ (hc 0)
  exact this
end Go.Proofs.YtfhcmggpojhegaaGreatDoor
namespace Go.Proofs.YtfhcmggpojhegaaGreatDoor
open Go.ChangeShapes Go.WideShapes Go.ChangeAt Go.RowKit
set_option linter.all false
set_option maxRecDepth 100000
set_option maxHeartbeats 8000000
theorem zu (os:Os) (started:os.Started) (H:Type) (enc:TypeId × Value→H) :
  ReturnsInHanded {} Tryz.checked os 3 .any (fun w args=>(Rows.topDigitSumSpec.pre enc Tryz.prog Tryz.f3 [] false w args∧laidMetH Tryz.prog jo w)∧sizedMet enc Tryz.prog Tryz.f3 (OpenSpec.ofChange Rows.topDigitSumSpec) false w args)
   (Rows.topDigitSumSpec.post enc Tryz.prog Tryz.f3 false true false false):=by
 refine returnsInHanded_of_change_and (C:=Tryz.checked) (X:=fun w _=>laidMetH Tryz.prog jo w) (fun _ _ _ hh h=>h.of_heap hh) own started (by kernel_rfl) Tryz.func3
  (ChangeSpec.witness_shaped (enc:=enc) (C:=Tryz.checked) (os:=os) (X:=fun w _=>laidMetH Tryz.prog jo w) false (World.laidAll Tryz.prog os jo) #[.agg #[.slice none 0 0,.slice none 0 0],.int .u8 0,.int .u8 0] 8 (World.laidAll_os _ _ _) (World.shaped_of_ZipB (by kernel_rfl) (by kernel_rfl)) (by kernel_rfl) (by kernel_rfl) (by kernel_rfl) (qI os _)) ?_
 intro W base args ds gs before hval0 hW _ _ hL _
 have hval:∀ (j:Nat) t v,Tryz.f3.params[j]?=some t→args[j]?=some v→Value.okWide Tryz.prog W .any base t v:=hval0
 have hW':=hW
 obtain ⟨p,q,uo,hV,rfl,hfz,hnd⟩:=hW
 have hlt:∀ x∈p++q,x.block<W.heap.size:=fun x hx=>hW'.lt x hx
 have hA:DataW.TrodAll enc Tryz.prog W 0 (fun _=>true) true Tryz.f3.params.toList args.toList ds p:=uo
 rw [Tryz.params3] at hA hval
 clear uo hval0
 obtain ⟨v0,vs0,d0,ds0,p0,q0,Q6,rfl,rfl,h0,r0⟩:=trodAll_cons hA
 obtain ⟨v1,vs1,d1,ds1,p1,q1,Q7,rfl,rfl,h1,r1⟩:=trodAll_cons r0
 obtain ⟨v2,vs2,d2,ds2,p2,q2,ajt,rfl,rfl,h2,r2⟩:=trodAll_cons r1
 obtain ⟨hn1,rfl,rfl⟩:=trodAll_nil r2
 subst hn1
 subst ajt
 subst Q7
 obtain rfl:args=#[v0,v1,v2]:=by cases args;simp_all
 obtain ⟨rfl,rfl⟩:=trodVars_none hV
 obtain ⟨r0a,r0b,x0a,x0b,hv0,u0a,u0b⟩:=vU (hval 0 23 v0 rfl rfl) h0 (fun x hx=>hlt x (by simp [hx]))
 subst hv0
 obtain ⟨z1,rfl,rfl,rfl,hz1⟩:=open_int Tryz.underlying5 (hval 1 5 v1 rfl rfl) h1
 have hb1:=bounds_u8 hz1
 obtain ⟨n1,rfl⟩:=Int.eq_ofNat_of_zero_le (show 0≤z1 by omega)
 obtain ⟨z2,rfl,rfl,rfl,hz2⟩:=open_int Tryz.underlying5 (hval 2 5 v2 rfl rfl) h2
 have hb2:=bounds_u8 hz2
 obtain ⟨n2,rfl⟩:=Int.eq_ofNat_of_zero_le (show 0≤z2 by omega)
 refine (Dk W (OI hL) _ _ u0a _ _ u0b n1 (by omega) n2 (by omega)).mono fun e W' ⟨he,hB⟩=>?_
 subst he
 exact ⟨_,rfl,qc hW' rfl (by rw [Tryz.params3];decide +kernel) rfl rfl rfl rfl hB⟩
theorem Dl:Rows.TopDigitSumSaid :=
 OpenClaim.holds_of_wide 3 Tryz.f3 rfl rfl rfl rfl rfl rfl rfl ⟨rfl,rfl,rfl,rfl,rfl⟩ rfl rfl rfl rfl rfl (by kernel_rfl) Tryz.func3 (by kernel_rfl)
  (of_decide_eq_true (by kernel_rfl)) (by unfold Func.isWrapper;first | (rw [if_pos (by decide +kernel)];kernel_rfl) | (rw [if_neg (by decide +kernel)];exact ⟨rfl,rfl⟩))
  (fun os started H enc _=>zu os started H enc)
theorem topDigitSum_holds:Rows.TopDigitSumCardSaid :=
 Claim7.holds_tied_plain_at .later [] [.data,.wider,.pinned] true Rows.topDigitSumCard.stood.harness false
  Dl (fun _ h=>by cases h) (by kernel_rfl) (fun _ h=>by cases h) topDigitSum_row_tie rfl ⟨rfl,rfl⟩ (by kernel_rfl) rfl
  (fun f fn hf hfn=>by
   obtain rfl:f = 3 := Option.some.inj ((show Tryz.prog.funcNamed "ziggurat/ziggurattop.TopDigitSum" = some 3 by kernel_rfl).symm.trans hf) |>.symm
   obtain rfl:fn=Tryz.f3 := (Option.some.inj (Tryz.func3.symm.trans hfn)).symm
   exact ⟨by kernel_rfl,fun j t ht=>by
    rw [Tryz.params3] at ht
    have hm:t∈[23,5,5]:=by simpa using Array.mem_of_getElem? ht
    have hall:([23,5,5].all fun u=>!Tryz.prog.wantsStandIn u)=true:=by kernel_rfl
    exact (show Tryz.prog.wantsStandIn t=false by simpa using List.all_eq_true.1 hall t hm)⟩)
  (by kernel_rfl)
end Go.Proofs.YtfhcmggpojhegaaGreatDoor
