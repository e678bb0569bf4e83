/- TopChinese, and what it leans on beyond the base. -/
import Derived.Test.YtfhcmggpojhegaaGreatDoorBaa
import Derived.Test.YtfhcmggpojhegaaGreatDoorBab
import Derived.Test.YtfhcmggpojhegaaGreatDoorBac
import Derived.Test.YtfhcmggpojhegaaGreatDoorBad
import Derived.Test.YtfhcmggpojhegaaGreatDoorBag
import Derived.Test.YtfhcmggpojhegaaGreatDoorBah
import Derived.Test.YtfhcmggpojhegaaGreatDoorBaf
import Derived.Test.YtfhcmggpojhegaaGreatDoorBak
import Derived.Test.YtfhcmggpojhegaaGreatDoorBaj
import Derived.Test.YtfhcmggpojhegaaGreatDoorBan
import Derived.Test.YtfhcmggpojhegaaGreatDoorBam
import Derived.Test.YtfhcmggpojhegaaGreatDoorBao
import Derived.Test.YtfhcmggpojhegaaGreatDoorBaq
import Derived.Test.YtfhcmggpojhegaaGreatDoorBas
import Derived.Test.YtfhcmggpojhegaaGreatDoorBar
import Derived.Test.YtfhcmggpojhegaaGreatDoorBat
import Derived.Test.YtfhcmggpojhegaaGreatDoorBav
import Derived.Test.YtfhcmggpojhegaaGreatDoorBaw
import Derived.Test.YtfhcmggpojhegaaGreatDoorBax
import Derived.Test.YtfhcmggpojhegaaGreatDoorBbb
import Derived.Test.YtfhcmggpojhegaaGreatDoorBbg
import Derived.Test.YtfhcmggpojhegaaGreatDoorBau
import Derived.Test.YtfhcmggpojhegaaGreatDoorBbe
import Derived.Test.YtfhcmggpojhegaaGreatDoorBbf
import Derived.Test.YtfhcmggpojhegaaGreatDoorBbc
import Derived.Deep.RegionHeld3
import Derived.BigCall
import Derived.Deep.MidRow
import Derived.Deep.WholeRow
import Derived.Laws.CopyOwn
import Derived.WalkKit
import Derived.Laws.EntriesVeiled
import Derived.Deep.AppendSrc
import Derived.Lib.AppendZeros
import Derived.Laws.IdiomStrings
import Derived.Laws.StructEq
import Derived.RangeFuncSeq
import Derived.RangeFuncLeaves
import Derived.OrdersIn
import Derived.TacticsIn
import Derived.Below
import Derived.Laws.OwnMore
import Derived.Laws.AppendOwn
import Derived.Laws.BitsAllLaws
import Derived.Laws.Bits64
import Derived.Deep.AppendLies
import Derived.Deep.Draws
import Derived.Lib.Hide
import Derived.OwnWalk
import Derived.ProofKit
import Derived.OpenShut
import Derived.JoinedCond
import Derived.RegionTactic
import Derived.LoopTactic
import Derived.BigQuiet
import Derived.Deep.QuietTactic
import Derived.Outline
import Derived.SevenTiedAt
import Derived.LaidMore
import Derived.Stop.Joined
import Derived.JoinedOf
import Derived.JoinedAt
import Derived.Lib.SmallJoins
import Derived.Laws.IdiomArrays
import Derived.WideKeyPair
import Derived.WideKeyArr2
import Derived.Deep.Cut
import Derived.Scope
import Derived.Deep.OwnRows
import Derived.Lay
import Derived.LaidOnce

namespace Go.Proofs.YtfhcmggpojhegaaGreatDoor.Pl
open Go
set_option linter.all false
set_option maxRecDepth 100000
set_option maxHeartbeats 8000000
/-! Which orders a drawn region allows, by masks of bits: one check for the whole region. -/
section
variable {P:Program} {ops:Array Oper} {Q:Exit→Act→World→Prop} {S:World→Prop}
def ry (M:Nat) (rs:List Nat):List Tb→Nat→Bool
 | [],_=>true
 | t::l,j=>(rs.elem j||tb M j||!(Nat.beq (Nat.land t.A M) t.A))&&ry M rs l (j+1)
def rA (T:List Tb) (M i:Nat):Bool:=match T[i]? with
 | none=>false
 | some t=>!(tb M i)&&Nat.beq (Nat.land t.A M) t.A
def vS (T:List Tb) (M:Nat) (rs:List Nat):Bool:=ry M rs T 0&&(match rs with
 | []=>false
 | i::_=>rA T M i)
theorem kK {M:Nat} {rs:List Nat}:∀ (l:List Tb) (j:Nat),ry M rs l j=true→∀ (k:Nat) (t:Tb),l[k]?=some t→M.testBit (j+k)=false→Nat.beq (Nat.land t.A M) t.A=true→j+k∈rs
 | [],_,_,k,t,h,_,_=>by simp at h
 | x::l,j,h,k,t,hk,hM,hA=>by
  rw [ry,Bool.and_eq_true] at h
  cases k with
  | zero =>
   obtain rfl:x=t:=by simpa using hk
   rw [Nat.add_zero] at hM ⊢
   have h1:=h.1
   rw [yh,hM,hA,Bool.or_false,Bool.not_true,Bool.or_false] at h1
   simpa using h1
  | succ k =>
   have hs:j+(k+1)=(j+1)+k:=by omega
   rw [hs] at hM ⊢
   exact kK l (j+1) h.2 k t (by simpa using hk) hM hA
end
end Go.Proofs.YtfhcmggpojhegaaGreatDoor.Pl
namespace Go.Proofs.YtfhcmggpojhegaaGreatDoor.Pl
open Go
set_option linter.all false
set_option maxRecDepth 100000
set_option maxHeartbeats 8000000
/-! A region walked by a plan, its frame a list of what is known of it. -/
section
variable {P:Program} {L:List Oper} {S:World→Prop} {K:List (Nat × Value)→World→Prop} {Q:Exit→Act→World→Prop} {n f:Nat} {ds:List Deferred}
def qb (P:Program) (L:List Oper) (S:World→Prop) (Q:Exit→Act→World→Prop) (n:Nat) (ds:List Deferred) (f M:Nat) (l:List (Nat × Value)) (w:World):List Nat→Prop
 | []=>True
 | i::rs=>dO P L S (G P L S Q n ds f (Nat.lor M (Nat.shiftLeft 1 i))) ((false,i,M)::[]) l w∧qb P L S Q n ds f M l w rs
theorem oD {M:Nat} {l:List (Nat × Value)} {w:World}:∀ {rs:List Nat},qb P L S Q n ds f M l w rs→∀ i∈rs,dO P L S (G P L S Q n ds f (Nat.lor M (Nat.shiftLeft 1 i))) ((false,i,M)::[]) l w
 | [],_,i,hi=>by cases hi
 | j::rs,h,i,hi=>by
  rcases List.mem_cons.1 hi with rfl | hi
  · exact h.1
  · exact oD h.2 i hi
theorem NN (hd:∀ i o d,nth L i=some o→o.dst=some d→d<n) {M:Nat} {l:List (Nat × Value)} {w:World} (rs:List Nat) (hr:vS (tabs L.toArray) M rs=true) (h:qb P L S Q n ds f M l w rs):G P L S Q n ds (f+1) M l w:=by
 intro a listed ha hL hS
 unfold vS at hr
 rw [Bool.and_eq_true] at hr
 refine ⟨fun h0=>?_,fun j hj=>?_⟩
 · cases rs with
   | nil=>cases hr.2
   | cons i rs =>
    have h2:=hr.2
    simp only [rA] at h2
    cases ht:(tabs L.toArray)[i]? with
    | none=>rw [ht] at h2;cases h2
    | some t =>
     obtain ⟨o,ho,rfl⟩:=Ah ht
     rw [ht] at h2
     simp only [Bool.and_eq_true,Bool.not_eq_true'] at h2
     rw [yh] at h2
     have hin:i∈Region.ready .any L.toArray listed:=(kX (n:=0) hL).2 ⟨o,ho,h2.1,h2.2⟩
     rw [h0] at hin;cases hin
 · obtain ⟨o,ho,h1,h2⟩:=(kX (n:=0) hL).1 hj
   have hoi:nth L j=some o:=by rw [p9,← List.getElem?_toArray];exact ho
   have hlt:j<L.toArray.size:=(Array.getElem?_eq_some_iff.1 ho).1
   have hm:=kK (tabs L.toArray) 0 hr.1 j _ (Ae ho) (by rw [Nat.zero_add];exact h1) h2
   rw [Nat.zero_add] at hm
   exact Ai (k:=false) (m:=M) (hd j o · hoi) hoi ha hS (oD h j hm) (fun a l w ha hS h=>h a _ ha (hL.put hlt) hS)
end
end Go.Proofs.YtfhcmggpojhegaaGreatDoor.Pl
namespace Go.Proofs.YtfhcmggpojhegaaGreatDoor.Pl
open Go
set_option linter.all false
set_option maxRecDepth 100000
set_option maxHeartbeats 8000000
/-! A function without loops, walked with its frame as a list of what is known. -/
section
variable {P:Program} {Q:Exit→Act→World→Prop} {n:Nat} {ds:List Deferred} {cs:List Code} {l:List (Nat × Value)} {w:World} {x y:Code}
theorem aR {L:List Oper} {S:World→Prop} {f M:Nat}:qb P L S Q n ds f M l w []:=trivial
theorem aC {L:List Oper} {S:World→Prop} {f M i:Nat} {rs:List Nat} (h:dO P L S (G P L S Q n ds f (Nat.lor M (Nat.shiftLeft 1 i))) ((false,i,M)::[]) l w) (hs:qb P L S Q n ds f M l w rs):qb P L S Q n ds f M l w (i::rs):=⟨h,hs⟩
theorem bN {L:List Oper} {S:World→Prop} {f M:Nat} {Q:Exit→Act→World→Prop} (l':List (Nat × Value)) (hl:I9 l l') (h:G P L S Q n ds f M l' w):G P L S Q n ds f M l w:=fun a listed ha hL hS=>h a listed (ha.less (pO hl)) hL hS
theorem oN {L:List Oper} {S:World→Prop} {g M:Nat} {Q:Exit→Act→World→Prop} (f e:Nat) (R:List (Nat × Value)→World→Prop) (h1:∀ l' w',R l' w'→G P L S Q n ds f e l' w') (h2:(∀ l' w',R l' w'→G P L S Q n ds f e l' w')→G P L S Q n ds g M l w):G P L S Q n ds g M l w:=h2 h1
def rC (n:Nat) (L:List Oper):Bool:=Region.noSelect L.toArray&&vI n L
theorem aM {L:List Oper} {S:World→Prop} {M:Nat} (r:List (Bool × Nat × Nat)) (e f:Nat) {g:Nat} (hQ:∀ c (d:Option Tmp) v a w,Q (.panic c) (a.put d v) w→Q (.panic c) a w) (hk:rC n L=true) (hg:Nat.beq (Nat.add r.length f) g=true)
  (hp:yN (tabs L.toArray) e r M=true) (h:dO P L S (G P L S (Ks P Q cs) n ds f e) r l w):G P L S (Ks P Q cs) n ds g M l w:=by
 rw [rC,Bool.and_eq_true] at hk
 have:=Nw (f:=f) hk.1 (fun c d v a w hq=>kI.2 (hQ c d v a w (kI.1 hq))) (ji hk.2) r M l w hp h
 rwa [show r.length+f=g from (beq_iff _ _).1 hg] at this
theorem bS {L:List Oper} {S:World→Prop} {M:Nat} (rs:List Nat) (f:Nat) {g:Nat} (hk:rC n L=true) (hg:Nat.beq (Nat.succ f) g=true) (hr:vS (tabs L.toArray) M rs=true) (h:qb P L S (Ks P Q cs) n ds f M l w rs):G P L S (Ks P Q cs) n ds g M l w:=by
 rw [rC,Bool.and_eq_true] at hk
 have:=NN (ji hk.2) rs hr h
 rwa [show f+1=g from (beq_iff _ _).1 hg] at this
open Classical in
end
section
variable {P:Program} {L:List Oper} {S:World→Prop} {K:List (Nat × Value)→World→Prop} {k:Bool} {i m d:Nat} {o:Oper} {r:List (Bool × Nat × Nat)} {l:List (Nat × Value)} {w w':World} {v:Value}
end
end Go.Proofs.YtfhcmggpojhegaaGreatDoor.Pl
namespace Go.Proofs.YtfhcmggpojhegaaGreatDoor.Pl
open Go
set_option linter.all false
set_option maxRecDepth 100000
set_option maxHeartbeats 8000000
/-! Steps for any program: numbers, slices, memory. -/
section
variable {P:Program} {T:TypeId} {x y:Operand} {k k':IntKind} {a b c:Int} {v:Bool}
theorem Ue (h:(a != b)=v) (X:World):Bn P .neq T x y (.int k a) (.int k b) X = .ok (.bool v) X:=by
 subst h;simp [Bn,eqGuard,binOp,Op.intCmp]
end
section
variable {P:Program} {T:TypeId} {x y:Operand} {a b c:Nat}
end
/-! Operations whose value follows from what is known alone. -/
section
variable {P:Program} {L:List Oper} {S:World→Prop} {K:List (Nat × Value)→World→Prop} {k:Bool} {i m d:Nat} {o:Oper} {r:List (Bool × Nat × Nat)} {l:List (Nat × Value)} {w w':World} {v:Value}
theorem sU {x y:Operand} {t e:TypeId} {ad:Addr} {n j s:Nat} {z:Int} {kd:IntKind} (hu:P.underlying t=some (.array n e)) (hs:(P.info? e).map (·.size)=some s) (hz:z=(j:Int)) (hj:j<n) (hS:S w) (ho:nth L i=some o) (hop:o.op = .indexAddr t x y) (hd:o.dst=some d) (hg:gd L l o.guard=some true)
  (hx:dF l x=some (.pointer (some ad))) (hy:dF l y=some (.int kd z)) (h:dO P L S K r ((d,.pointer (some (ad.add (j*s))))::l) w):dO P L S K ((k,i,m)::r) l w :=
 dB hS ho hd hg (fun ρ hρ X _=>by
  subst hz
  unfold execOp;rw [hop]
  refine fJ _ X ?_
  rw [hρ.dF hx,hρ.dF hy]
  have h0:(0:Int)≤(j:Int)∧(j:Int)<(n:Int):=by omega
  obtain ⟨inf,hi,hz⟩:=Option.map_eq_some_iff.1 hs
  subst hz
  simp [Instr.indexAt,run_underlying hu,asIntOf,h0,hj,sizeOf,typeInfo,hi,Result.andThen,Instr.sureAddr]) h
end
end Go.Proofs.YtfhcmggpojhegaaGreatDoor.Pl
namespace Go.Proofs.YtfhcmggpojhegaaGreatDoor.Pl
open Go Go.RowKit
set_option linter.all false
set_option maxRecDepth 100000
set_option maxHeartbeats 8000000
/-! Memory: variables, slices that are read, rows that grow, what is kept. -/
section
variable {P:Program}
end
section
variable {P:Program} {ok:Value→Prop} {w w':World} {base:Nat} {e:TypeId} {size:Nat} {v:Value} {n:Nat} {xs:List Value}
end
section
variable {P:Program} {L:List Oper} {S:World→Prop} {K:List (Nat × Value)→World→Prop} {k:Bool} {i m d:Nat} {o:Oper} {x y:Operand} {r:List (Bool × Nat × Nat)} {l:List (Nat × Value)} {w w':World} {v:Value}
theorem AR {T:TypeId} {u:Value} {cs:List Value} (ho:nth L i=some o) (hp:o.op = .box T x) (hd:o.dst=some d) (hg:gd L l o.guard=some true) (hx:dF l x=some u) (hc:u.cells=cs.toArray) (hS:∀ Y,Ex w Y→S Y)
  (h:∀ N w',Ex w w'→N=w.heap.size→Cb w' N T cs→dO P L S K r ((d,.pointer (some ⟨N,0,none⟩))::l) w'):dO P L S K ((false,i,m)::r) l w:=by
 have e1:=Ex.alloc w (.cells cs.toArray T)
 refine mh (w':=w.alloc (.cells cs.toArray T)) (v:=.pointer (some ⟨w.heap.size,0,none⟩)) ho hd hg (fun ρ hρ=>?_) (hS _ e1) (h _ _ e1 rfl (Cb.new w T cs))
 unfold execOp;rw [hp]
 refine kJ _ ?_
 rw [hρ.dF hx]
 simp [Instr.box,Sem.run_bind,newVar,newRow,hc]
end
end Go.Proofs.YtfhcmggpojhegaaGreatDoor.Pl
namespace Go.Proofs.YtfhcmggpojhegaaGreatDoor.Pl
open Go
set_option linter.all false
set_option maxRecDepth 100000
set_option maxHeartbeats 8000000
/-! Ranges over functions: code inside a round, calls of yield, the statement itself. -/
section
variable {P:Program} {Q:Exit→Act→World→Prop} {ro:Option Nat} {n:Nat} {ds:List Deferred} {cs:List Code} {l:List (Nat × Value)} {w:World} {x y:Code}
/-! A loop of few rounds, one round after another. -/
/-! A return from inside of loops and blocks. -/
/-! Operations. -/
end
section
variable {P:Program} {L:List Oper} {S:World→Prop} {K:List (Nat × Value)→World→Prop} {Q:Exit→Act→World→Prop} {ro:Option Nat} {n f:Nat} {ds:List Deferred}
end
section
variable {P:Program} {Q:Exit→Act→World→Prop} {n:Nat} {ds:List Deferred} {cs:List Code} {l:List (Nat × Value)} {w:World}
theorem vT {fn:Func} {R:Ending→World→Prop}:∀ c (d:Option Tmp) v a w,DW P fn R (.panic c) (a.put d v) w→DW P fn R (.panic c) a w:=fun _ _ _ _ _ h=>h
end
end Go.Proofs.YtfhcmggpojhegaaGreatDoor.Pl
namespace Go.Proofs.YtfhcmggpojhegaaGreatDoor.Pl
open Go Go.RowKit
set_option linter.all false
set_option maxRecDepth 100000
set_option maxHeartbeats 8000000
/-! Small laws for the walk's printer (sx.py). -/
theorem e_f {a b:Int} (h:a≠b):(a==b)=false:=beq_false_of_ne h
theorem n_t {a b:Int} (h:a≠b):(a != b)=true:=bne_iff_ne.2 h
section
variable {P:Program} {T:TypeId} {x y:Operand} {a b c:Nat} {za zb:Int}
end
section
variable {P:Program} {T:TypeId} {x y:Operand}
end
section
variable {P:Program} {n:Nat} {cs:List Code} {l:List (Nat × Value)} {w:World} {fn:Func} {R:Ending→World→Prop} {t t2 t3:Tmp} {N N2 N3:Nat} {ty ty2 ty3:TypeId} {v v2 v3:Value}
end
end Go.Proofs.YtfhcmggpojhegaaGreatDoor.Pl
namespace Go.Proofs.YtfhcmggpojhegaaGreatDoor
open Go.RowKit
set_option linter.all false
set_option maxRecDepth 100000
set_option maxHeartbeats 8000000
theorem gY {P:Program} (w:World) (base:Nat) (t ty e:TypeId) (i:TypeInfo) (size:Nat) (ht:P.underlying t=some (.slice e)) (hi:P.info? e=some i)
  (v:Value) (n c:Nat) (xs:List Value) (hown:w.ownsRow base e size v n xs) :
  (Builtin.append_ #[t,t] ty #[v,.slice none 0 c]).run P w = .ok v w:=by
 rcases hown.2 with ⟨rfl,rfl⟩ | ⟨g,cap,cur,rfl,_,_,hnc,_⟩
 · simp [Builtin.append_,run_underlying ht,sizeOf,typeInfo,hi,Builtin.lenOf,Builtin.firstCells]
 · simp [Builtin.append_,run_underlying ht,sizeOf,typeInfo,hi,Builtin.lenOf,Builtin.firstCells,hnc,storeCells]
theorem jP (w:World) (base:Nat) (v:Value) (o:List Nat) (hown:Own w base v o) (x:Value) (ys:List Nat) (hx:U w x ys) (hlen:o.length+ys.length≤35184372088832) (hbase:base≤w.heap.size) :
  ∃ v' w',(Builtin.append_ #[22,22] 22 #[v,x]).run Tryz.prog w = .ok v' w'∧Own w' base v' (o++ys)∧w.grownBy w' v.ownBlock:=by
 obtain ⟨i0,hi,hz0,hz1,hz2⟩:=info_parts pR
 obtain ⟨A,c,rfl,⟨h1,h2⟩,hlt,hr⟩:=hx
 cases A with
 | none =>
  have h0:ys.length=0:=by
   rcases Nat.eq_zero_or_pos ys.length with h0 | h0
   · exact h0
   · obtain ⟨ad,h,_⟩:=hr h0;cases h
  obtain rfl:=List.eq_nil_of_length_eq_zero h0
  refine ⟨v,w,gY w base 22 22 27 i0 1 Tryz.underlying22 hi v _ c _ hown,by rw [List.append_nil];exact hown,World.grownBy.refl w _⟩
 | some ad =>
  have hcells:∀ j u,(mX ys)[j]?=some u→w.cell? (ad.add j)=some u:=fun j u hj=>by
   have hjl:j<ys.length:=by
    rcases Nat.lt_or_ge j ys.length with h | h
    · exact h
    · rw [List.getElem?_eq_none (by rw [eG];exact h)] at hj;cases hj
   obtain ⟨afR,e',_,hcell⟩:=hr (by omega)
   replace e':=Option.some.inj e'
   subst e'
   rw [hcell j hjl,← qX ys hjl,hj]
  obtain ⟨v',w',hrun,hown',hg,_⟩:=run_append_own (P:=Tryz.prog) w base 22 22 27 i0 (.int .u32 0) 1 4 Tryz.underlying22 hi hz0 hz1 hz2 rfl (by decide) v o.length (mX o) hown ad ys.length c (mX ys) (by rw [eG,Nat.mul_one]) hcells
   (by intro u hu;obtain ⟨z,_,rfl⟩:=List.mem_map.1 hu;rfl) (by unfold maxLen;omega) (by omega) hbase
  exact ⟨v',w',hrun,by unfold Own;rw [jM,List.length_append];exact hown',hg⟩
end Go.Proofs.YtfhcmggpojhegaaGreatDoor
namespace Go.Proofs.YtfhcmggpojhegaaGreatDoor
open Go.RowKit
set_option linter.all false
set_option maxRecDepth 100000
set_option maxHeartbeats 8000000
theorem Q8 (b O b2 R Y:Nat) (hO:0<O) (hb:b/O+1=b2) (h:R*b2≤Y):R*b≤Y*O:=by
 have h1:b≤b2*O:=by
  have:=Nat.lt_mul_div_succ b hO
  rw [Nat.mul_comm,← hb]
  omega
 have h2:R*b≤R*(b2*O):=Nat.mul_le_mul_left R h1
 have h3:R*b2*O≤Y*O:=Nat.mul_le_mul_right O h
 rw [Nat.mul_assoc] at h3
 omega
theorem Z0 (a b S1 K1 R q:Nat) (hS:0<S1) (hK:0<K1) (hR:R*b≤S1*K1) (hq:a/S1*R/K1=q):q*b≤a:=by
 have h1:q*K1≤a/S1*R:=by rw [← hq];exact Nat.div_mul_le_self _ _
 have h2:q*K1*b≤a/S1*R*b:=Nat.mul_le_mul_right b h1
 have h3:a/S1*(R*b)≤a/S1*(S1*K1):=Nat.mul_le_mul_left _ hR
 have h4:a/S1*S1*K1≤a*K1:=Nat.mul_le_mul_right K1 (Nat.div_mul_le_self _ _)
 rw [← Nat.mul_assoc,← Nat.mul_assoc] at h3
 refine Nat.le_of_mul_le_mul_right (c:=K1) ?_ hK
 rw [Nat.mul_right_comm]
 omega
end Go.Proofs.YtfhcmggpojhegaaGreatDoor
namespace Go.Proofs.YtfhcmggpojhegaaGreatDoor
open Go.ChangeShapes Go.WideShapes Go.ChangeAt Go.RowKit
set_option linter.all false
set_option maxRecDepth 100000
set_option maxHeartbeats 8000000
theorem laidOut:laidOutB Tryz.prog=true:=by kernel_rfl
theorem rD:Tryz.prog.cellsOf 27 = 1:=by kernel_rfl
theorem fD {H:Type} {enc:TypeId × Value→H} {W W':World} {sp:Nat→Bool} (hB:Ext W W'):∀ {ts:List TypeId} {vs:List Value} {ds:List (DataW H)} {ps:List MemPlace},
  (∀ t∈ts,Tryz.prog.readableRec t=true∧t<Tryz.prog.types.size)→DataW.TrodAll enc Tryz.prog W 0 (fun _=>true) true ts vs ds ps→(∀ p∈ps,p.block<W.heap.size)→(∀ p∈ps,sp p.block=true)→DataW.TrodAll enc Tryz.prog W' 0 sp true ts vs ds ps
 | [],[],[],_,_,h,_,_=>h
 | t::_,_::_,_::_,_,hT,⟨p,q,h1,h2,e⟩,hlt,hs=>⟨p,q,
  WideElems.Trod_stays laidOut (hT t (List.mem_cons_self ..)).1 (hT t (List.mem_cons_self ..)).2 h1 (fun x hx=>Below.same hB (hlt x (by rw [e];exact List.mem_append_left _ hx))) (fun x hx=>hs x (by rw [e];exact List.mem_append_left _ hx)),
  fD hB (fun t ht=>hT t (List.mem_cons_of_mem _ ht)) h2 (fun x hx=>hlt x (by rw [e];exact List.mem_append_right _ hx)) (fun x hx=>hs x (by rw [e];exact List.mem_append_right _ hx)),e⟩
theorem qc {H:Type} {enc:TypeId × Value→H} {f:Func} {s:ChangeSpec} {apart fresh handsOn again:Bool} {W W':World} {args:Array Value} {ds gs:List (DataW H)} {before:List MemPlace}
  (hW:DataW.Whole enc Tryz.prog f.params.toList s.vars apart W args.toList ds gs before) (hv:s.vars=[]) (hT:∀ t∈f.params.toList,Tryz.prog.readableRec t=true∧t<Tryz.prog.types.size)
  (hres:f.resultTypes=#[4]) (hfn:(s.fn H (ds++gs)).results=[.lit (.bool true)]) (hfa:(s.fn H (ds++gs)).args=ds) (Xe:(s.fn H (ds++gs)).vars=[]) (hB:Ext W W') :
  s.post enc Tryz.prog f apart fresh handsOn again W args (.bool true) W':=by
 have hlt:∀ p∈before,p.block<W.heap.size:=fun p hp=>hW.lt p hp
 have hold:∀ p∈before,(fun b=>decide (b<W.heap.size)) p.block=true:=fun p hp=>by simpa using hlt p hp
 have hres':∀ (b:Nat) (sp:Nat→Bool) (hd:Bool),DataW.TrodAll enc Tryz.prog W' b sp hd f.resultTypes.toList ((Value.bool true).resultList f.resultTypes.size) (s.fn H (ds++gs)).results []:=by
  intro b sp hd
  rw [hres,hfn]
  exact trodAll_mk1 (shut_bool Tryz.underlying4 _)
 have hW2:=hW
 obtain ⟨p,q,hA,hV,hpq,hz,hn⟩:=hW
 rw [hv] at hV
 obtain ⟨_,rfl⟩:=trodVars_none hV
 rw [List.append_nil] at hpq
 subst hpq
 have hargs:∀ sp:Nat→Bool,(∀ p'∈before,sp p'.block=true)→DataW.TrodAll enc Tryz.prog W' 0 sp true f.params.toList args.toList (s.fn H (ds++gs)).args before:=fun sp hs=>by
  rw [hfa];exact fD hB hT hA hlt hs
 have hvars:∀ sp:Nat→Bool,DataW.TrodVars enc Tryz.prog W' sp s.vars (s.fn H (ds++gs)).vars []:=fun sp=>by rw [hv,Xe];exact rfl
 refine ⟨ds,gs,before,[],before,[],hW2,hres' _ _ _,hargs _ hold,hvars _,World.keptBut_mono (fun p hp=>⟨hp,?_⟩) (Below.frame hB (·∈before)),fun _=>?_⟩
 · simpa using hp
 · refine ⟨ok_one hres rfl (okWide_bool_mk Tryz.underlying4 _),_,_,([]++before)++[],⟨[]++before,[],trodAll_append (hargs _ (fun _ _=>rfl)) (hres' _ _ _),hvars _,rfl,?_,?_⟩,?_⟩
   · intro b off hp
     have hin:MemPlace.cell b off∈before:=by simpa using hp
     rw [Below.frozen hB (hlt _ hin)]
     exact hz b off hin
   · intro ha
     have:=hn ha
     simpa using this
   · intro p hp _
     simpa using hp
end Go.Proofs.YtfhcmggpojhegaaGreatDoor
namespace Go.Proofs.YtfhcmggpojhegaaGreatDoor
open Go.ChangeShapes Go.WideShapes Go.ChangeAt Go.RowKit
set_option linter.all false
set_option maxRecDepth 100000
set_option maxHeartbeats 8000000
theorem fC {H:Type} {enc:TypeId × Value→H} {W:World} {fuel:Nat} {v:Value} {y:DataW H × List MemPlace} (hf:DataW.trod enc Tryz.prog W 0 (fun _=>true) true fuel 22 [v]=some y) :
  ∃ xs:List Nat,U W v xs:=by
 rcases open_ints Tryz.underlying22 Tryz.underlying27 rD hf with ⟨hcs,hx⟩ | ⟨a,len,cap',zs,hcs,_,hl,hm,hz,hx,hcell,hwz⟩
 · simp at hcs
   subst hcs
   exact ⟨[],U.Eo _ _ _⟩
 · simp at hcs
   subst hcs
   simp only [if_true] at hz
   have hlen:((zs.take len).map Int.toNat).length=len:=by simp;omega
   have hb:∀ z∈zs,0≤z∧z<4294967296:=fun z hzz=>by have:=bounds_u32 (hwz z hzz);omega
   refine ⟨(zs.take len).map Int.toNat,some a,cap',by rw [hlen],⟨by rw [hlen];exact hl,by rw [hlen];unfold maxLen at hm;omega⟩,?_,fun h0=>⟨a,rfl,?_,fun j hj=>?_⟩⟩
   · intro x hx'
     obtain ⟨z,hz1,rfl⟩:=List.mem_map.1 hx'
     have:=hb z (List.mem_of_mem_take hz1)
     omega
   · rw [hlen] at h0
     have hc:=hcell 0 (by omega)
     rw [gN] at hc
     unfold World.cell? at hc
     rcases Nat.lt_or_ge a.block W.heap.size with h | h
     · exact h
     · rw [Array.getElem?_eq_none h] at hc;cases hc
   · rw [hlen] at hj
     have hjz:j<zs.length:=by omega
     have e:lb ((zs.take len).map Int.toNat) j=(zs.getD j 0).toNat:=by
      simp [lb,hj,hjz]
     rw [hcell j hjz,e]
     have hmem:zs.getD j 0∈zs:=by simp [hjz]
     have:=hb _ hmem
     rw [show (((zs.getD j 0).toNat:Nat):Int)=zs.getD j 0 by omega]
end Go.Proofs.YtfhcmggpojhegaaGreatDoor
namespace Go.Proofs.YtfhcmggpojhegaaGreatDoor
open Go.RowKit
set_option linter.all false
set_option maxRecDepth 100000
set_option maxHeartbeats 8000000
attribute [local go_sem ↓] fU
attribute [local go_sem] bY
theorem gz (w:World) (v:Value) (xs:List Nat) (h:U w v xs) (hlen:xs.length≤1000000000) :
  Calls Tryz.prog 46 #[v] w fun e w'=>(∃ u,e = .returned u∧U w' u (limbs (val xs)))∧Below w.heap.size w w':=by
 have h':=h
 obtain ⟨A,c,rfl,⟨hc,hm⟩,hx,hr⟩:=h
 go_enter Tryz.func46,Tryz.ntmps46
 go_wp2
 go_loop [3] (fun n=>∃ k:Nat,k≤xs.length∧n = .int .i64 k∧Hid (∀ j,k≤j→j<xs.length→lb xs j=0)) (fun n=>(intOf n).toNat)
 case atStart=>exact ⟨xs.length,Nat.le_refl _,rfl,fun j h1 h2=>by omega⟩
 case round =>
  obtain ⟨k,hk,rfl,hz⟩:=hrel
  have hfin:(0<k→lb xs (k-1)≠0)→∃ v' w',(Builtin.append_ #[22,22] 22 #[.slice (some ⟨w.heap.size,0,none⟩) 0 0,.slice A k c]).run Tryz.prog (w.alloc (.cells #[] 27)) = .ok v' w'∧U w' v' (limbs (val xs))∧Below w.heap.size w w':=fun h2=>by
   have hB:Below w.heap.size w (w.alloc (.cells #[] 27)):=(Below.refl _ _).alloc (Nat.le_refl _) _
   have hown:Own (w.alloc (.cells #[] 27)) w.heap.size (.slice (some ⟨w.heap.size,0,none⟩) 0 0) []:=World.ownsRow_lit w #[] 0 (Nat.le_refl _) (Nat.zero_le _) rfl
   have hu:U w (.slice A k c) (xs.take k):=h'.take hk (by omega)
   have htl:(xs.take k).length=k:=by simp;omega
   obtain ⟨v',w',hrun,ho,hg⟩:=jP _ w.heap.size _ [] hown _ _ (hu.below hB) (by rw [htl];simp;omega) hB.size
   refine ⟨v',w',hrun,?_,hB.grown hg hB.size (fun j e=>by cases e;exact Nat.le_refl _)⟩
   rw [sV xs k hx hk hz.out h2]
   rw [List.nil_append] at ho
   exact ho.KG (fun x hx'=>hx x (List.mem_of_mem_take hx')) (by rw [htl];omega)
  rcases Nat.eq_zero_or_pos k with rfl | h0
  · obtain ⟨v',w',hrun,HU,HB⟩:=hfin (fun h=>absurd h (by omega))
    obtain ⟨t1,t2,t3⟩:=j5 hrun
    clear hfin hrun
    go_wp2
    go_ret
    exact ⟨⟨_,rfl,HU⟩,HB⟩
  · obtain ⟨ad,rfl,hb,hcell⟩:=hr (by omega)
    have hc1:=hcell (k-1) (by omega)
    by_cases hx0:lb xs (k-1)=0
    · have ht:((((lb xs (k-1):Nat)):Int)==0)=true:=by rw [hx0];rfl
      have HX:=Lib.hid hx0
      clear hx0 hfin
      go_wp2
      go_round
      case rel=>exact ⟨k-1,by omega,by go_num,fun j h1 h2=>by
       rcases Nat.lt_or_ge j k with h3 | h3
       · have:j=k-1:=by omega
         subst this;exact HX.out
       · exact hz.out j h3 h2⟩
      case measure=>simp [intOf];omega
    · have ht:((((lb xs (k-1):Nat)):Int)==0)=false:=by rw [beq_eq_false_iff_ne];omega
      obtain ⟨v',w',hrun,HU,HB⟩:=hfin (fun _=>hx0)
      obtain ⟨t1,t2,t3⟩:=j5 hrun
      clear hfin hrun hx0
      go_wp2
      go_ret
      exact ⟨⟨_,rfl,HU⟩,HB⟩
end Go.Proofs.YtfhcmggpojhegaaGreatDoor
namespace Go.Proofs.YtfhcmggpojhegaaGreatDoor
open Go.RowKit
set_option linter.all false
set_option maxRecDepth 100000
set_option maxHeartbeats 8000000
theorem mD (w:World) (v:Value) (xs:List Nat) (k:Int) (hk0:0≤k) (hk1:k≤1000000000) (h:U w v xs) :
  Calls Tryz.prog 9 #[v,.int .i64 k] w fun e w'=>(∃ u,e = .returned u∧Un w' u (lF xs k.toNat))∧Below w.heap.size w w':=by
 have h':=h
 obtain ⟨A,c,rfl,⟨hc,hm⟩,hx,hr⟩:=h
 clear hr
 by_cases hl:(xs.length:Int)≤k
 · have hu:=gz w _ xs h' (by omega)
   have HT:Hid (xs.take k.toNat=xs):=List.take_of_length_le (by omega)
   have hmin:min (xs.length:Int) k=xs.length:=by omega
   go_enter Tryz.func9,Tryz.ntmps9
   go_wp2_with (go_at_call 46;refine hu.mono ?_;rintro e w' ⟨⟨z,rfl,hz⟩,hB⟩)
   go_ret
   exact ⟨⟨_,rfl,by rw [Un,lF,HT.out];exact hz⟩,hB⟩
 · obtain ⟨k,rfl⟩:=Int.eq_ofNat_of_zero_le hk0
   have hu:=gz w _ _ (h'.take (k:=k) (c':=c) (by omega) (by omega)) (by rw [List.length_take];omega)
   have hmin:min (xs.length:Int) (k:Int)=k:=by omega
   go_enter Tryz.func9,Tryz.ntmps9
   go_wp2_with (go_at_call 46;refine hu.mono ?_;rintro e w' ⟨⟨z,rfl,hz⟩,hB⟩)
   go_ret
   exact ⟨⟨_,rfl,by rw [Un,lF,Int.toNat_natCast];exact hz⟩,hB⟩
end Go.Proofs.YtfhcmggpojhegaaGreatDoor
namespace Go.Proofs.YtfhcmggpojhegaaGreatDoor
open Go.RowKit
set_option linter.all false
set_option maxRecDepth 100000
set_option maxHeartbeats 8000000
theorem nA (w:World) (v:Value) (xs:List Nat) (k:Int) (h:U w v xs) (hk0:0≤k) (hk1:k≤1000000000) (n:Nat) (hn:lF xs k.toNat=n) :
  Calls Tryz.prog 9 #[v,.int .i64 k] w fun e w'=>∃ u,e = .returned u∧Un w' u n∧Ext w w':=by
 subst hn
 exact (mD w v xs k hk0 hk1 h).mono fun e w' ⟨⟨u,he,hu⟩,hb⟩=>⟨u,he,hu,hb⟩
end Go.Proofs.YtfhcmggpojhegaaGreatDoor
namespace Go.Proofs.YtfhcmggpojhegaaGreatDoor
open Go.RowKit
set_option linter.all false
set_option maxRecDepth 100000
set_option maxHeartbeats 8000000
theorem G9 (w:World) (v u:Value) (n m d:Nat) (h:Un w v n) (g:Un w u m) (hl:(limbs n).length≤1000000) (hle:m≤n) (hd:n-m=d) :
  Calls Tryz.prog 70 #[v,u] w fun e w'=>∃ z,e = .returned z∧Un w' z d∧Ext w w':=by
 have h0:=Lib.hid (vF w v u n m h g (by omega) true (by rw [decide_eq_true_iff];exact hle) d hd)
 clear h g hle hd
 go_enter Tryz.func70,Tryz.ntmps70
 go_wp2_with (fail)
 refine h0.out.mono ?_
 rintro e w1 ⟨z,rfl,hz,hB⟩
 have HF:Hid (∃ z',Ending.returned z = .returned z'∧Un w1 z' d∧Ext w w1):=⟨_,rfl,hz,hB⟩
 clear hz hB h0
 go_wp2
 go_ret
 exact HF.out
end Go.Proofs.YtfhcmggpojhegaaGreatDoor
namespace Go.Proofs.YtfhcmggpojhegaaGreatDoor
set_option linter.all false
set_option maxRecDepth 100000
set_option maxHeartbeats 8000000
theorem CY {n m:Nat} (h:n≤m):aU n≤aU m:=aT (Nat.lt_of_le_of_lt h (dW m))
end Go.Proofs.YtfhcmggpojhegaaGreatDoor
namespace Go.Proofs.YtfhcmggpojhegaaGreatDoor
open Go.RowKit
set_option linter.all false
set_option maxRecDepth 100000
set_option maxHeartbeats 8000000
theorem AX (w:World) (N:Nat) (hN:w.heap.size=N) (x:Nat) (h0:x≠0) (h:x<4294967296):Un (w.alloc (.cells #[.int .u32 (x:Nat)] 27)) (.slice (some ⟨N,0,none⟩) 1 1) x:=by
 subst hN
 have:=Fh w [x] (by simpa using h) (by simp)
 rw [Un,qY x h0 h]
 exact this
theorem Zf {x:Nat} (h:x<4294967296):(limbs x).length≤398:=Nat.le_trans (jO (k:=1) (by unfold LB;omega)) (by decide)
end Go.Proofs.YtfhcmggpojhegaaGreatDoor
namespace Go.Proofs.YtfhcmggpojhegaaGreatDoor
open Go.RowKit
set_option linter.all false
set_option maxRecDepth 100000
set_option maxHeartbeats 8000000
def Dz (w w':World) (e:Ending):Prop:=e = .returned (.tuple #[.slice none 0 0,.slice none 0 0,.int .i64 3])∧Ext w w'
theorem F7 (w:World) (va vb:Value) (hb:Un w vb 0) :
  Calls Tryz.prog 67 #[va,vb] w fun e w'=>Dz w w' e:=by
 unfold Dz
 obtain ⟨Ab,cb,rfl⟩:=oZ hb
 have gK:=Ext.refl w
 clear hb
 go_enter Tryz.func67,Tryz.ntmps67
 go_wp2
 go_ret3
 exact ⟨rfl,gK⟩
theorem F8 (w:World) (va vb:Value) (a:Nat) (ha:Un w va a) (hb:Un w vb 0) (hla:(limbs a).length≤1000) :
  Calls Tryz.prog 18 #[va,vb] w fun e w'=>Dz w w' e:=by
 have hS:=Lib.hid (F7 w va vb hb)
 unfold Dz at *
 obtain ⟨Aa,ca,rfl,hca⟩:=U.shape (U.dK ha)
 obtain ⟨Ab,cb,rfl⟩:=oZ hb
 clear ha hb
 generalize (limbs a).length=la at *
 have hm1:(if (la:Int)<0 then (la:Int) else 0)=0:=if_neg (by omega)
 go_enter Tryz.func18,Tryz.ntmps18
 go_wp2_with (fail)
 refine hS.out.mono ?_
 rintro e w1 ⟨rfl,hB⟩
 clear hS
 go_wp2
 go_ret3
 exact ⟨rfl,hB⟩
end Go.Proofs.YtfhcmggpojhegaaGreatDoor
namespace Go.Proofs.YtfhcmggpojhegaaGreatDoor
open Go.RowKit
set_option linter.all false
set_option maxRecDepth 100000
set_option maxHeartbeats 8000000
theorem LQ (b O b2 R Y c:Nat) (hO:0<O) (hb:b/O+1=b2) (hOb:O≤b) (hRO:R*O≤b) (h:R*b2≤Y) (hc:Y≤R*b2+c*b2):R*b≤Y*O∧Y*O≤R*b+(2*c+1)*b:=by
 refine ⟨Q8 b O b2 R Y hO hb h,?_⟩
 have h1:b2*O≤b+O:=by
  rw [← hb,Nat.add_mul,Nat.one_mul]
  have:=Nat.div_mul_le_self b O
  omega
 have h2:Y*O≤(R+c)*(b2*O):=by
  have:=Nat.mul_le_mul_right O hc
  rw [← Nat.add_mul,Nat.mul_assoc] at this
  exact this
 have h3:(R+c)*(b2*O)≤(R+c)*(b+O):=Nat.mul_le_mul_left _ h1
 have h4:(R+c)*(b+O)=R*b+R*O+(c*b+c*O):=by rw [Nat.add_mul,Nat.mul_add,Nat.mul_add]
 have h5:c*O≤c*b:=Nat.mul_le_mul_left _ hOb
 have h6:(2*c+1)*b=c*b+c*b+b:=by rw [Nat.add_mul,Nat.one_mul,Nat.mul_assoc,Nat.two_mul]
 omega
structure zi (e b size k b' size':Nat):Prop where
 lo:2^(size'-1)≤b'
 hi:b'≤2^(size'+e+1)
 one:1≤size'
 le:size'≤size
 lek:size'≤k+4
 back:∀ R c,R*b'≤2^(size'+k)→2^(size'+k)≤R*b'+c*b'→R*b≤2^(size+k)∧2^(size+k)≤R*b+(2*c+1)*b
theorem CZ (e b size k:Nat) (h1:2^(size-1)≤b) (h2:b≤2^(size+e)) (h3:1≤size) (h4:size≤k+4):zi e b size k b size:=by
 refine ⟨h1,Nat.le_trans h2 (Nat.pow_le_pow_right (by decide) (by omega)),h3,Nat.le_refl _,h4,fun R c a1 a2=>⟨a1,Nat.le_trans a2 ?_⟩⟩
 have:=Nat.mul_le_mul_right b (show c≤2*c+1 by omega)
 omega
theorem He (e b size k ov b2:Nat) (h1:2^(size-1)≤b) (h2:b≤2^(size+e)) (h3:size=k+4+ov) (hb:b/2^ov+1=b2):zi e b size k b2 (k+4):=by
 have hO:0<2^ov:=Nat.two_pow_pos _
 have e1:2^(size-1)=2^(k+3)*2^ov:=by rw [← Nat.pow_add];congr 1;omega
 have e2:2^(k+3)≤b/2^ov:=(Nat.le_div_iff_mul_le hO).2 (by rw [← e1];exact h1)
 have e3:b/2^ov≤2^(k+4+e):=by
  refine Nat.div_le_of_le_mul ?_
  rw [← Nat.pow_add,show ov+(k+4+e)=size+e by omega];exact h2
 refine ⟨by show 2^(k+3)≤b2;omega,?_,by omega,by omega,Nat.le_refl _,fun R c a1 a2=>?_⟩
 · have:2^(k+4+e+1)=2^(k+4+e)*2:=Nat.pow_succ ..
   have:=Nat.two_pow_pos (k+4+e)
   omega
 · have f1:2^(k+3)≤b2:=by omega
   have f2:R*2^(k+3)≤2^(k+1)*2^(k+3):=by
    rw [← Nat.pow_add,show k+1+(k+3)=k+4+k by omega]
    exact Nat.le_trans (Nat.mul_le_mul_left R f1) a1
   have f3:R≤2^(k+1):=Nat.le_of_mul_le_mul_right f2 (Nat.two_pow_pos _)
   have f4:R*2^ov≤b:=by
    refine Nat.le_trans (Nat.mul_le_mul_right _ f3) (Nat.le_trans ?_ h1)
    rw [← Nat.pow_add];exact Nat.pow_le_pow_right (by decide) (by omega)
   have f5:2^ov≤b:=Nat.le_trans (Nat.pow_le_pow_right (by decide) (by omega)) h1
   have f6:=LQ b (2^ov) b2 R (2^(k+4+k)) c hO hb f5 f4 a1 a2
   rw [← Nat.pow_add,show k+4+k+ov=size+k by omega] at f6
   exact f6
theorem Hf (e size k b R:Nat) (h1:2^(size-1)≤b) (h3:1≤size) (h:R*b≤2^(size+k)):R≤2^(k+1):=by
 have f2:R*2^(size-1)≤2^(k+1)*2^(size-1):=by
  rw [← Nat.pow_add,show k+1+(size-1)=size+k by omega]
  exact Nat.le_trans (Nat.mul_le_mul_left R h1) h
 exact Nat.le_of_mul_le_mul_right f2 (Nat.two_pow_pos _)
theorem Z4 (a b S1 K1 R q c:Nat) (hS:0<S1) (hK:0<K1) (hSb:S1≤b) (ha:a/S1<K1) (hR:S1*K1≤R*b+c*b) (hq:a/S1*R/K1=q):a<q*b+(c+2)*b:=by
 have h1:a/S1*R<(q+1)*K1:=by
  rw [← hq,Nat.mul_comm _ K1];exact Nat.lt_mul_div_succ _ hK
 have h2:a/S1*(S1*K1)≤a/S1*(R*b+c*b):=Nat.mul_le_mul_left _ hR
 have h3:a/S1*(R*b+c*b)=a/S1*R*b+a/S1*(c*b):=by rw [Nat.mul_add,Nat.mul_assoc]
 have h4:a/S1*R*b≤(q+1)*K1*b:=Nat.mul_le_mul_right b (Nat.le_of_lt h1)
 have h5:a/S1*(c*b)≤K1*(c*b):=Nat.mul_le_mul_right _ (Nat.le_of_lt ha)
 have h6:a/S1*S1*K1≤((q+1)*b+c*b)*K1:=by
  rw [Nat.add_mul,Nat.mul_right_comm (q+1) b K1,Nat.mul_comm (c*b) K1,Nat.mul_assoc (a/S1) S1 K1]
  omega
 have h7:=Nat.le_of_mul_le_mul_right h6 hK
 have h8:a<a/S1*S1+S1:=by
  have:=Nat.lt_mul_div_succ a hS
  rw [Nat.mul_add,Nat.mul_one,Nat.mul_comm] at this
  exact this
 rw [Nat.add_mul,Nat.one_mul] at h7
 rw [Nat.add_mul c 2]
 omega
end Go.Proofs.YtfhcmggpojhegaaGreatDoor
namespace Go.Proofs.YtfhcmggpojhegaaGreatDoor
open Go.RowKit
set_option linter.all false
set_option maxRecDepth 100000
set_option maxHeartbeats 8000000
theorem LU {n c:Nat} (h:n<2^(32*c)):(limbs n).length≤c:=fT (by rw [Cc];exact h)
theorem iO {n m:Nat} (c:Nat) (h:n≤2^m) (hm:m<32*c):(limbs n).length≤c:=LU (Nat.lt_of_le_of_lt h (Nat.pow_lt_pow_right (by decide) hm))
theorem C8 (a b q0 R more q r:Nat) (h:R+(q0+more)*b=a) (hlt:a<q0*b+1152921504606846976*b) (hb:0<b) (hq:a/b=q) (hr:a%b=r):more<1152921504606846976∧(R<b→q0+more=q∧R=r):=by
 refine ⟨?_,fun hR=>?_⟩
 · rw [Nat.add_mul] at h
   have:more*b<1152921504606846976*b:=by omega
   exact Nat.lt_of_mul_lt_mul_right this
 · obtain ⟨h1,h2⟩:=zG b a (q0+more) R (by omega) hR
   exact ⟨by rw [← h1,hq],by rw [← h2,hr]⟩
theorem Q9 (w:World) (va vb vq:Value) (a b q0 q r:Nat) (ha:Un w va a) (hb:Un w vb b) (hq0:Un w vq q0) (hla:(limbs a).length≤398) (hlb:(limbs b).length≤398) (hlq:(limbs q0).length≤398) (h0:b≠0)
  (hle:q0*b≤a) (hlt:a<q0*b+1152921504606846976*b) (hq:a/b=q) (hr:a%b=r) :
  Calls Tryz.prog 66 #[va,vb,vq] w fun e w'=>(∃ x y,e = .returned (.tuple #[x,y])∧Un w' x q∧Un w' y r)∧Ext w w':=by
 have gK:=Ext.refl w
 obtain ⟨p,hp⟩:∃ p,q0*b=p:=⟨_,rfl⟩
 obtain ⟨R0,hR0⟩:∃ R0,a-p=R0:=⟨_,rfl⟩
 have HMul:=Lib.hid (mulN w vq vb q0 b p hq0 hb hlq hlb hp)
 have Z5:=Lib.hid (fun W u (h:Un W va a) (g:Un W u p)=>G9 W va u a p R0 h g (by omega) (by omega) hR0)
 have HM:=Lib.hid (fun R more h=>C8 a b q0 R more q r h hlt (by omega) hq hr)
 have WX:Hid (R0+(q0+0)*b=a):=by show R0+(q0+0)*b=a;rw [Nat.add_zero,hp];omega
 have Zh:Hid (∀ R,R≤a→(limbs R).length≤398):=fun R h=>Nat.le_trans (eZ h) hla
 have HLQ:Hid ((limbs q0).length≤398):=hlq
 have HB0:=Lib.hid (show 0<b by omega)
 clear hla hlb hlq h0 hle hlt hq hr hp hR0
 go_enter Tryz.func66,Tryz.ntmps66
 go_wp2_with (fail)
 refine HMul.out.mono ?_
 rintro e w1 ⟨vp,rfl,hvp,hB⟩
 replace ha:=U.below (U.dK ha) hB
 replace hb:=U.below (U.dK hb) hB
 replace hq0:=U.below (U.dK hq0) hB
 replace gK:=gK.below hB
 clear hB HMul
 go_wp2_with (fail)
 refine (Z5.out _ _ ha hvp).mono ?_
 rintro e w2 ⟨vr,rfl,rX,hB⟩
 replace hb:=U.below (U.dK hb) hB
 replace hq0:=U.below (U.dK hq0) hB
 replace gK:=gK.below hB
 clear hB Z5 ha hvp
 go_wp2
 go_loopw [8,9] (fun s8 s9 wr=>∃ (R more:Nat),Un wr s8 R∧s9 = .int .u64 (more:Nat)∧Hid (R+(q0+more)*b=a)∧Un wr vb b∧Un wr vq q0∧Ext w wr) (fun _ s9 _=>1152921504606846976-(intOf s9).toNat)
 case atStart=>exact ⟨R0,0,rX,rfl,WX,hb,hq0,gK⟩
 case round =>
  clear rX WX hb hq0 gK
  obtain ⟨R,more,hR,rfl,HO,hb,hq0,hE⟩:=hrel
  obtain ⟨hm,hdn⟩:=HM.out R more HO.out
  have hRa:R≤a:=by have:=HO.out;omega
  have hlR:=Zh.out R hRa
  obtain ⟨k,hk⟩:∃ k,dY (R:Int) (b:Int)=k:=⟨_,rfl⟩
  have mY:=Lib.hid (pU wr _ vb R b hR hb k hk)
  rcases Nat.lt_or_ge R b with hlt | hge
  · obtain ⟨hqe,rfl⟩:=hdn hlt
    obtain rfl:k = -1:=by rw [← hk];exact kU (by omega)
    have HOf:=Lib.hid (fun W=>of_B W (more:Int) (Int.natCast_nonneg _) (by omega) more (Int.toNat_natCast _))
    have Z6:=Lib.hid (fun W u (h:Un W vq q0) (g:Un W u more)=>jA W vq u q0 more h g (by have:=HLQ.out;omega) (by have:=fT (n:=more) (k:=2) (by omega);omega) q hqe)
    clear hm hdn hRa hlR hk hlt hqe HO hb
    go_wp2_with (fail)
    refine mY.out.mono ?_
    rintro e w3 ⟨rfl,hB⟩
    replace hR:=U.below (U.dK hR) hB
    replace hq0:=U.below (U.dK hq0) hB
    replace hE:=hE.below hB
    clear hB mY
    go_wp2_with (fail)
    refine (HOf.out _).mono ?_
    rintro e w4 ⟨vo,rfl,hvo,hB⟩
    replace hR:=U.below (U.dK hR) hB
    replace hq0:=U.below (U.dK hq0) hB
    replace hE:=hE.below hB
    clear hB HOf
    go_wp2_with (fail)
    refine (Z6.out _ _ hq0 hvo).mono ?_
    rintro e w5 ⟨vs,rfl,hvs,hB⟩
    replace hR:=U.below (U.dK hR) hB
    replace hE:=hE.below hB
    have HF:Hid (∃ x y,Ending.returned (.tuple #[vs,u8]) = .returned (.tuple #[x,y])∧Un w5 x q∧Un w5 y R):=⟨_,_,rfl,hvs,hR⟩
    clear hB Z6 hq0 hvo hvs hR
    go_wp2
    go_ret2
    exact ⟨HF.out,hE⟩
  · have hk1:0≤k:=by
     rw [← hk]
     rcases Nat.lt_or_ge b R with h | h
     · rw [lW (by omega)];decide
     · rw [show R=b by omega,oW];decide
    have hk2:decide (0≤k)=true:=by rw [decide_eq_true_iff];exact hk1
    obtain ⟨R2,hR2⟩:∃ R2,R-b=R2:=⟨_,rfl⟩
    have Z5:=Lib.hid (fun W (h:Un W u8 R) (g:Un W vb b)=>G9 W u8 vb R b R2 h g (by omega) hge hR2)
    have HST:Hid (R2+(q0+(more+1))*b=a):=by
     show R2+(q0+(more+1))*b=a
     rw [← Nat.add_assoc,Nat.add_mul (q0+more),Nat.one_mul,← HO.out];omega
    have f1:(more:Int)+1=((more+1:Nat):Int):=by omega
    have f2:=iP (show more+1<18446744073709551616 by omega)
    have f3:=iY (show more+1<18446744073709551616 by omega)
    have HMO:=Lib.hid hm
    obtain ⟨m2,hm2⟩:∃ m2,more+1=m2:=⟨_,rfl⟩
    have HM2:=Lib.hid hm2
    rw [hm2] at f1 f2 f3 HST
    clear hm hdn hRa hlR hk hge hR2 HO hm2
    go_wp2_with (fail)
    refine mY.out.mono ?_
    rintro e w3 ⟨rfl,hB⟩
    replace hR:=U.below (U.dK hR) hB
    replace hb:=U.below (U.dK hb) hB
    replace hq0:=U.below (U.dK hq0) hB
    replace hE:=hE.below hB
    clear hB mY
    go_wp2_with (fail)
    refine (Z5.out _ hR hb).mono ?_
    rintro e w4 ⟨vr2,rfl,aiE,hB⟩
    replace hb:=U.below (U.dK hb) hB
    replace hq0:=U.below (U.dK hq0) hB
    replace hE:=hE.below hB
    clear hB Z5 hR
    go_wp2
    go_roundw
    case rel=>exact ⟨R2,m2,aiE,by first | rfl | go_num,HST,hb,hq0,hE⟩
    case measure=>have:=HMO.out;have:=HM2.out;simp [intOf];omega
end Go.Proofs.YtfhcmggpojhegaaGreatDoor
namespace Go.Proofs.YtfhcmggpojhegaaGreatDoor
open Go.RowKit
set_option linter.all false
set_option maxRecDepth 100000
set_option maxHeartbeats 8000000
theorem rE (w:World):Un (w.alloc (.cells #[.int .u32 1] 27)) (.slice (some ⟨w.heap.size,0,none⟩) 1 1) 1:=AX w _ rfl 1 (by decide) (by decide)
theorem wD (k:Nat):1*2^k=2^k:=Nat.one_mul _
theorem D7:(limbs 1).length≤1000000000:=Nat.le_trans (Zf (by decide)) (by decide)
def Rc (c:Nat) (w w':World) (e:Ending) (b size k:Nat):Prop:=∃ u R,e = .returned u∧Un w' u R∧(R*b≤2^(size+k)∧2^(size+k)≤R*b+c*b)∧Ext w w'
theorem LV (w:World) (vb:Value) (b size k:Nat) (hb:Un w vb b) (h1:2^(size-1)≤b) (h2:b≤2^(size+1)) (h3:1≤size) (h4:size≤4100) (hk:k<2000) :
  Calls Tryz.prog 65 #[vb,.int .i64 (size:Nat),.int .i64 (k:Nat)] w fun e w'=>Rc 3 w w' e b size k:=by
 unfold Rc
 have gK:=Ext.refl w
 have hlb:(limbs b).length≤129:=iO 129 h2 (by omega)
 have Om:Hid (∀ b' size',zi 1 b size k b' size'→b'≠0∧(limbs b').length≤126∧(limbs (2^(size'+k))).length≤900∧(2^(size'+k)/b')*b≤2^(size+k)∧2^(size+k)≤(2^(size'+k)/b')*b+3*b):=fun b' size' h=>by
  have a1:=h.lek
  have a2:=h.one
  have hb0:0<b':=Nat.lt_of_lt_of_le (Nat.two_pow_pos _) h.lo
  refine ⟨by omega,iO 126 h.hi (by omega),iO 900 (Nat.le_refl _) (by omega),?_⟩
  have:=h.back (2^(size'+k)/b') 1 (Nat.div_mul_le_self _ _) (by
   have:=Nat.lt_mul_div_succ (2^(size'+k)) hb0
   rw [Nat.mul_add,Nat.mul_one,Nat.mul_comm] at this
   omega)
  simpa using this
 have HCT:Hid (k+4<size→zi 1 b size k (b/2^(size-(k+4))+1) (k+4)):=fun h=>He 1 b size k (size-(k+4)) _ h1 h2 (by omega) rfl
 have HSM:Hid (size≤k+4→zi 1 b size k b size):=fun h=>CZ 1 b size k h1 h2 h3 h
 have HLB:=Lib.hid hlb
 obtain ⟨ov,hov⟩:∃ ov:Int,(size:Int)-((k:Int)+4)=ov:=⟨_,rfl⟩
 have HOV:=Lib.hid hov
 have HH:=Lib.hid h4
 clear h1 h2 h3 hlb
 go_enter Tryz.func65,Tryz.ntmps65
 go_upto_if 21 with (fail)
 go_cut [0,1] from 7 (fun s0 s1 wx=>∃ (b' size':Nat),Un wx s0 b'∧s1 = .int .i64 (size':Nat)∧Hid (zi 1 b size k b' size')∧Ext w wx)
 case first =>
  by_cases h:k+4<size
  · obtain ⟨n,hn⟩:∃ n,size-(k+4)=n:=⟨_,rfl⟩
    have hC:=HCT.out h
    rw [hn] at hC
    have MQ:ov=(n:Int):=by omega
    have hp:decide ((0:Int)<ov)=true:=by rw [decide_eq_true_iff];omega
    have hp2:0<ov:=by omega
    obtain ⟨b1,hb1⟩:∃ b1,b/2^n=b1:=⟨_,rfl⟩
    obtain ⟨b2,hb2⟩:∃ b2,b1+1=b2:=⟨_,rfl⟩
    rw [hb1,hb2] at hC
    have HC:=Lib.hid hC
    have hl1:(limbs b1).length≤129:=Nat.le_trans (eZ (by rw [← hb1];exact Nat.div_le_self _ _)) HLB.out
    have Z7:=Lib.hid (fun W (h:Un W vb b)=>DK W vb b ov h (by omega) (by omega) (by have:=HLB.out;omega) b1 (by rw [MQ,Int.toNat_natCast];exact hb1))
    have Z6:=Lib.hid (fun W v u (h:Un W v b1) (g:Un W u 1)=>jA W v u b1 1 h g (by omega) D7 b2 hb2)
    clear h hn MQ hb1 hb2 hl1 hC hov
    go_wp2_with (fail)
    refine (Z7.out _ hb).mono ?_
    rintro e w1 ⟨v1,rfl,hv1,hB⟩
    replace gK:=gK.below hB
    have hl:=Lib.hid (rE w1)
    clear hB Z7 hb
    go_wp2_with (fail)
    refine (Z6.out _ _ _ (U.alloc (U.dK hv1) _) hl.out).mono ?_
    rintro e w2 ⟨v2,rfl,hv2,hB⟩
    replace gK:=(gK.alloc _).below hB
    clear hB Z6 hv1 hl
    go_wp2_with (fail)
    go_meet
    case rel=>exact ⟨b2,k+4,hv2,by first | rfl | go_num,HC,gK⟩
  · have hp:decide ((0:Int)<ov)=false:=by rw [decide_eq_false_iff_not];omega
    have hp2:¬ 0<ov:=by omega
    have HC:Hid (zi 1 b size k b size):=HSM.out (by omega)
    clear h hov
    go_wp2_with (fail)
    go_meet
    case rel=>exact ⟨b,size,hb,rfl,HC,gK⟩
 case rest =>
  obtain ⟨b',size',hb',rfl,HC,hE⟩:=hcut
  obtain ⟨a1,a2,a3,a4⟩:=Om.out b' size' HC.out
  have a5:=HC.out.lek
  obtain ⟨Y,hY⟩:∃ Y,2^(size'+k)=Y:=⟨_,rfl⟩
  obtain ⟨R,hR⟩:∃ R,Y/b'=R:=⟨_,rfl⟩
  rw [hY] at a3 a4
  rw [hR] at a4
  have HA:=Lib.hid a4
  have HSl:=Lib.hid (fun W v (h:Un W v 1)=>MP W v 1 ((size':Int)+(k:Int)) h (by omega) (by omega) D7 Y (by rw [show ((size':Int)+(k:Int)).toNat=size'+k by omega,wD];exact hY))
  have HSc:=Lib.hid (fun W v u (h:Un W v Y) (g:Un W u b')=>zO W v u Y b' R (Y%b') h g (by omega) (by omega) a1 hR rfl)
  have hl:=Lib.hid (rE wc)
  have a6:size'≤2003:=by omega
  clear a1 a2 a3 a4 a5 hY hR HC Om HCT HSM hov gK hb
  go_wp2_with (fail)
  refine (HSl.out _ _ hl.out).mono ?_
  rintro e w1 ⟨v1,rfl,hv1,hB⟩
  replace hb':=U.below (U.alloc (U.dK hb') _) hB
  replace hE:=(hE.alloc _).below hB
  clear hB HSl hl
  go_wp2_with (fail)
  refine (HSc.out _ _ _ hv1 hb').mono ?_
  rintro e w2 ⟨⟨x,y,rfl,hx,hy⟩,hB⟩
  replace hE:=hE.below hB
  have HF:Hid (∃ u R,Ending.returned x = .returned u∧Un w2 u R∧(R*b≤2^(size+k)∧2^(size+k)≤R*b+3*b)∧Ext w w2):=⟨_,R,rfl,hx,HA.out,hE⟩
  clear hB HSc hv1 hb' hx hy hE HA
  go_wp2
  go_ret
  exact HF.out
end Go.Proofs.YtfhcmggpojhegaaGreatDoor
namespace Go.Proofs.YtfhcmggpojhegaaGreatDoor
open Go.RowKit
set_option linter.all false
set_option maxRecDepth 100000
set_option maxHeartbeats 8000000
theorem wE (a b size ba k:Nat) (h0:b≠0) (hge:b≤a) (hla:(limbs a).length≤60) (hs:aU b=size) (hba:aU a=ba) (hk:ba-size+1=k) :
  size≤ba∧2^(size-1)≤b∧b≤2^(size+1)∧1≤size∧ba≤1920 ∧
  ∀ R,R*b≤2^(size+k)→2^(size+k)≤R*b+3*b→(limbs R).length≤61∧(limbs (a/2^(size-1))).length≤60∧(limbs (a/2^(size-1)*R)).length≤200∧(limbs (a/2^(size-1)*R/2^(k+1))).length≤60 ∧
   a/2^(size-1)*R/2^(k+1)*b≤a∧a<a/2^(size-1)*R/2^(k+1)*b+1152921504606846976*b:=by
 have e1:size≤ba:=by rw [← hs,← hba];exact CY hge
 have e2:2^(size-1)≤b:=by rw [← hs];exact kD h0
 have e3:b≤2^(size+1):=Nat.le_trans (Nat.le_of_lt (dW b)) (by rw [hs];exact Nat.pow_le_pow_right (by decide) (by omega))
 have e4:1≤size:=by rw [← hs];exact AQ h0
 have e5:ba≤1920:=by rw [← hba];exact Hg hla
 refine ⟨e1,e2,e3,e4,e5,fun R a1 a2=>?_⟩
 have hS:=Nat.two_pow_pos (size-1)
 have hK:=Nat.two_pow_pos (k+1)
 have eSK:2^(size-1)*2^(k+1)=2^(size+k):=by rw [← Nat.pow_add];congr 1;omega
 have hR:=Hf 0 size k b R e2 e4 a1
 have ha1:a/2^(size-1)<2^k:=by
  refine Nat.div_lt_of_lt_mul ?_
  rw [← Nat.pow_add,show size-1+k=ba by omega,← hba]
  exact dW a
 have hle:=Z0 a b (2^(size-1)) (2^(k+1)) R _ hS hK (by rw [eSK];exact a1) rfl
 have atI:=Z4 a b (2^(size-1)) (2^(k+1)) R _ 3 hS hK e2 (Nat.lt_of_lt_of_le ha1 (Nat.pow_le_pow_right (by decide) (by omega))) (by rw [eSK];exact a2) rfl
 have hM:=mul_two (Nat.le_of_lt ha1) hR
 refine ⟨iO 61 hR (by omega),Nat.le_trans (eZ (Nat.div_le_self _ _)) hla,iO 200 hM (by omega),Nat.le_trans (eZ (Nat.le_trans (Nat.le_mul_of_pos_right _ (by omega)) hle)) hla,hle,?_⟩
 omega
theorem Bg (w:World) (va vb:Value) (a b q r:Nat) (ha:Un w va a) (hb:Un w vb b) (hla:(limbs a).length≤60) (hlb:(limbs b).length≤60) (h0:b≠0) (hq:a/b=q) (hr:a%b=r) :
  Calls Tryz.prog 16 #[va,vb] w fun e w'=>Dv w w' e q r:=by
 unfold Dv
 have hnz:=Ff h0
 obtain ⟨Ab,cb,rfl,hcb⟩:=U.shape (U.dK hb)
 obtain ⟨L,hL⟩:∃ L,(limbs b).length=L:=⟨_,rfl⟩
 obtain ⟨k,hk⟩:∃ k,dY (a:Int) (b:Int)=k:=⟨_,rfl⟩
 have mY:=Lib.hid (pU w va _ a b ha hb k hk)
 rw [hL] at hnz hlb hb mY ⊢
 have hL0:((L:Int)==0)=false:=by rw [beq_eq_false_iff_ne];omega
 have agL:¬ L=0:=by omega
 have gK:=Ext.refl w
 rcases Nat.lt_or_ge a b with hlt | hge
 · have hq0:q=0:=by rw [← hq];exact Nat.div_eq_of_lt hlt
   have hr0:r=a:=by rw [← hr];exact Nat.mod_eq_of_lt hlt
   have hk1:k = -1:=by rw [← hk];exact kU (by omega)
   subst hq0 hr0 hk1
   clear hq hr hk hlt hb hL hcb hla hlb
   go_enter Tryz.func16,Tryz.ntmps16
   go_wp2_with (fail)
   refine mY.out.mono ?_
   rintro e w1 ⟨rfl,hB⟩
   replace ha:=U.below (U.dK ha) hB
   replace gK:=gK.below hB
   have HF:Hid (∃ x y,Ending.returned (.tuple #[.slice none 0 0,va,.int .i64 0]) = .returned (.tuple #[x,y,.int .i64 0])∧Un w1 x 0∧Un w1 y r):=⟨_,_,rfl,Fg _,ha⟩
   clear hB mY ha
   go_wp2
   go_ret3
   exact ⟨HF.out,gK⟩
 · have hk1:¬ k<0:=by
    rw [← hk]
    rcases Nat.lt_or_ge b a with h | h
    · rw [lW (by omega)];decide
    · rw [show a=b by omega,oW];decide
   have hk2:decide (k<0)=false:=by rw [decide_eq_false_iff_not];exact hk1
   obtain ⟨size,hs⟩:∃ size,aU b=size:=⟨_,rfl⟩
   obtain ⟨ba,hba⟩:∃ ba,aU a=ba:=⟨_,rfl⟩
   obtain ⟨kk,hkk⟩:∃ kk,ba-size+1=kk:=⟨_,rfl⟩
   obtain ⟨m1,m2,m3,m4,m5,m6⟩:=wE a b size ba kk h0 hge hla hs hba hkk
   obtain ⟨s1,hs1⟩:∃ s1,size-1=s1:=⟨_,rfl⟩
   obtain ⟨k1,Z8⟩:∃ k1,kk+1=k1:=⟨_,rfl⟩
   have HBb:=Lib.hid (fun W (h:Un W (.slice Ab L cb) b)=>vw W _ b h (by omega) (size:Int) (by rw [hs]))
   have HBa:=Lib.hid (fun W (h:Un W va a)=>vw W va a h (by omega) (ba:Int) (by rw [hba]))
   obtain ⟨a1,ha1⟩:∃ a1,a/2^s1=a1:=⟨_,rfl⟩
   have Z7:=Lib.hid (fun W (h:Un W va a)=>DK W va a (s1:Int) h (Int.natCast_nonneg _) (by omega) (by omega) a1 (by rw [Int.toNat_natCast];exact ha1))
   have HBl:Hid (∀ W v,Un W v b→Calls Tryz.prog 65 #[v,.int .i64 (size:Nat),.int .i64 (kk:Nat)] W fun e w'=>∃ u R,e = .returned u∧Un w' u R∧(R*b≤2^(size+kk)∧2^(size+kk)≤R*b+3*b)∧Ext W w'):=fun W v g=>LV W v b size kk g m2 m3 m4 (by omega) (by omega)
   rw [hs1,Z8,ha1] at m6
   have HM6:=Lib.hid m6
   have HLL:=Lib.hid (And.intro hla (And.intro (show (limbs b).length≤60 by omega) (And.intro h0 (And.intro hq (And.intro hr (show k1≤2000 by omega))))))
   have f1:(ba:Int)-(size:Int)+1=(kk:Int):=by omega
   have f2:(size:Int)-1=(s1:Int):=by omega
   have f3:(kk:Int)+1=(k1:Int):=by omega
   have f4:size≤1920:=by omega
   have f5:kk≤1921:=by omega
   clear hq hr hk hge hL hcb hla hlb h0 hs hba hkk m1 m2 m3 m4 m6 hs1 Z8 ha1
   go_enter Tryz.func16,Tryz.ntmps16
   go_wp2_with (fail)
   refine mY.out.mono ?_
   rintro e w1 ⟨rfl,hB⟩
   replace ha:=U.below (U.dK ha) hB
   replace hb:=U.below (U.dK hb) hB
   replace gK:=gK.below hB
   clear hB mY
   go_wp2_with (fail)
   refine (HBb.out _ hb).mono ?_
   rintro e w2 ⟨rfl,hB⟩
   replace ha:=U.below (U.dK ha) hB
   replace hb:=U.below (U.dK hb) hB
   replace gK:=gK.below hB
   clear hB HBb
   go_wp2_with (fail)
   refine (HBa.out _ ha).mono ?_
   rintro e w3 ⟨rfl,hB⟩
   replace ha:=U.below (U.dK ha) hB
   replace hb:=U.below (U.dK hb) hB
   replace gK:=gK.below hB
   clear hB HBa
   go_wp2_with (fail)
   refine (Z7.out _ ha).mono ?_
   rintro e w4 ⟨v4,rfl,hv4,hB⟩
   replace ha:=U.below (U.dK ha) hB
   replace hb:=U.below (U.dK hb) hB
   replace gK:=gK.below hB
   clear hB Z7
   go_wp2_with (fail)
   refine (HBl.out _ _ hb).mono ?_
   rintro e w5 ⟨v5,R,rfl,hv5,hab,hB⟩
   replace ha:=U.below (U.dK ha) hB
   replace hb:=U.below (U.dK hb) hB
   replace hv4:=U.below (U.dK hv4) hB
   replace gK:=gK.below hB
   obtain ⟨l1,l2,l3,l4,l5,l6⟩:=HM6.out R hab.1 hab.2
   obtain ⟨hla,hlb,h0,hq,hr,aiG⟩:=HLL.out
   obtain ⟨M1,hM1⟩:∃ M1,a1*R=M1:=⟨_,rfl⟩
   obtain ⟨q0,hq0⟩:∃ q0,M1/2^k1=q0:=⟨_,rfl⟩
   rw [hM1] at l3
   rw [hM1,hq0] at l4
   rw [hM1,hq0] at l5
   rw [hM1,hq0] at l6
   have HMu:=Lib.hid (fun W (h:Un W v4 a1) (g:Un W v5 R)=>mulN W v4 v5 a1 R M1 h g (by omega) (by omega) hM1)
   have HS2:=Lib.hid (fun W u (h:Un W u M1)=>DK W u M1 (k1:Int) h (Int.natCast_nonneg _) (by omega) (by omega) q0 (by rw [Int.toNat_natCast];exact hq0))
   have HMe:=Lib.hid (fun W u (h:Un W va a) (h':Un W (.slice Ab L cb) b) (g:Un W u q0)=>Q9 W va _ u a b q0 q r h h' g (by omega) (by omega) (by omega) h0 l5 l6 hq hr)
   clear hB HBl hab l1 l2 l3 l4 l5 l6 hla hlb h0 hq hr hM1 hq0 HM6 HLL aiG
   go_wp2_with (fail)
   refine (HMu.out _ hv4 hv5).mono ?_
   rintro e w6 ⟨v6,rfl,hv6,hB⟩
   replace ha:=U.below (U.dK ha) hB
   replace hb:=U.below (U.dK hb) hB
   replace gK:=gK.below hB
   clear hB HMu hv4 hv5
   go_wp2_with (fail)
   refine (HS2.out _ _ hv6).mono ?_
   rintro e w7 ⟨v7,rfl,hv7,hB⟩
   replace ha:=U.below (U.dK ha) hB
   replace hb:=U.below (U.dK hb) hB
   replace gK:=gK.below hB
   clear hB HS2 hv6
   go_wp2_with (fail)
   refine (HMe.out _ _ ha hb hv7).mono ?_
   rintro e w8 ⟨⟨x,y,rfl,hx,hy⟩,hB⟩
   replace gK:=gK.below hB
   have HF:Hid (∃ x' y',Ending.returned (.tuple #[x,y,.int .i64 0]) = .returned (.tuple #[x',y',.int .i64 0])∧Un w8 x' q∧Un w8 y' r):=⟨_,_,rfl,hx,hy⟩
   clear hx hy hB HMe ha hb hv7
   go_wp2
   go_ret3
   exact ⟨HF.out,gK⟩
end Go.Proofs.YtfhcmggpojhegaaGreatDoor
namespace Go.Proofs.YtfhcmggpojhegaaGreatDoor
open Go.ChangeShapes Go.WideShapes Go.ChangeAt Go.RowKit
set_option linter.all false
set_option maxRecDepth 100000
set_option maxHeartbeats 8000000
theorem kL {P:Program} {k e:TypeId} {n:Nat} {W:World} (hu:P.underlying k=some (.array n e)) {r:Reach} {b0:Nat} {v:Value} (h:Value.okWide P W r b0 k v):∃ xs:Array Value,v = .agg xs∧xs.size=P.cellsOf k:=by
 simp only [Value.okWide,hu] at h
 obtain ⟨cs,h1,h2,_⟩:=h
 exact ⟨cs,h1,h2⟩
end Go.Proofs.YtfhcmggpojhegaaGreatDoor
namespace Go.Proofs.YtfhcmggpojhegaaGreatDoor
open Go.RowKit
set_option linter.all false
set_option maxRecDepth 100000
set_option maxHeartbeats 8000000
theorem kM (n:Nat):sg false n=(n:Int):=rfl
theorem Ib.new2 (w:World) (o:Obj) (b:Bool) (m:Value) (T:TypeId):Ib ((w.alloc o).alloc (.cells #[.bool b,m] T)) (w.heap.size+1) b m:=by
 have:=Ib.new (w.alloc o) b m T
 simpa using this
theorem Ib.vV (w:World) (o o2:Obj) (b:Bool) (m:Value) (T:TypeId):Ib (((w.alloc o).alloc o2).alloc (.cells #[.bool b,m] T)) (w.heap.size+1+1) b m:=by
 have:=Ib.new2 (w.alloc o) o2 b m T
 simpa using this
end Go.Proofs.YtfhcmggpojhegaaGreatDoor
namespace Go.Proofs.YtfhcmggpojhegaaGreatDoor
open Go.RowKit
set_option linter.all false
set_option maxRecDepth 100000
set_option maxHeartbeats 8000000
theorem QK (b:Bool) (n:Nat):sg (!b) n = -(sg b n):=by cases b<;>simp [sg]
theorem ahN (w:World) (v:Value) (z:Int) (h:Zn w v z) (y:Int) (hy : -z=y) :
  Calls Tryz.prog 148 #[v] w fun e w'=>∃ u,e = .returned u∧Zn w' u y∧Ext w w':=by
 obtain ⟨b,A,L,c,n,rfl,hu,hL,hz,hb,hza,hzn⟩:=h.open
 have hE0:=((Ext.refl w).alloc (.cells #[.bool b,.slice A L c] 48)).alloc (.cells #[.bool false,.slice none 0 0] 48)
 have hI0:=Ib.new2 w (.cells #[.bool b,.slice A L c] 48) false (.slice none 0 0) 48
 have lC:=(Ib.new w b (.slice A L c) 48).ext ((Ext.refl _).alloc (.cells #[.bool false,.slice none 0 0] 48))
 have hu0:=hu.below hE0
 have hM:=Lib.hid (fun W h=>iq W (!b) (.slice A L c) (limbs n) h n (aO n) y (by rw [QK,← hz];exact hy))
 obtain ⟨p0,p1,p2,p3,p4⟩:=id lC
 clear hz hb hza hzn hL hy h
 go_enter Tryz.func148,Tryz.ntmps148
 go_wp2_with (go_at_call 35;refine (hM.out _ hu0).mono ?_;rintro e w2 ⟨u,rfl,hz2,hE2⟩;obtain ⟨b2,A2,L2,c2,rfl⟩:=hz2.sh;have hI2:=hI0.ext hE2;obtain ⟨i0,i1,i2,i3,i4⟩:=id hI2)
 (try simp only [Exit.inBlock,Exit.then])
 refine bodyPost_ret (v:=.agg #[.bool b2,.slice A2 L2 c2]) (show (results _ _).run _ _=_ from ?_) rfl ⟨_,rfl,hz2.dA hI2 (aP _ _ _) _ _,(hE0.below hE2).dA (by simp) _ _⟩
 simp only [results]
 go_simp
end Go.Proofs.YtfhcmggpojhegaaGreatDoor
namespace Go.Proofs.YtfhcmggpojhegaaGreatDoor
open Go.RowKit
set_option linter.all false
set_option maxRecDepth 100000
set_option maxHeartbeats 8000000
theorem yO {w X Y:World} {p q:Bool} {mp mq:Value} (h:(w.heap.size+1+1<X.heap.size∧X.cell? ⟨w.heap.size,0,none⟩=some (.bool p)∧X.cell? ⟨w.heap.size,1,none⟩=some mp∧X.cell? ⟨w.heap.size+1,0,none⟩=some (.bool q)∧X.cell? ⟨w.heap.size+1,1,none⟩=some mq)∧Ext w X) (k:Ext X Y):(w.heap.size+1+1<Y.heap.size∧Y.cell? ⟨w.heap.size,0,none⟩=some (.bool p)∧Y.cell? ⟨w.heap.size,1,none⟩=some mp∧Y.cell? ⟨w.heap.size+1,0,none⟩=some (.bool q)∧Y.cell? ⟨w.heap.size+1,1,none⟩=some mq)∧Ext w Y:=by
 obtain ⟨⟨h0,h1,h2,h3,h4⟩,hx⟩:=h
 have hs:=k.size
 exact ⟨⟨by omega,(k.cell (p:=⟨w.heap.size,0,none⟩) (by show w.heap.size<_;omega)).trans h1,(k.cell (p:=⟨w.heap.size,1,none⟩) (by show w.heap.size<_;omega)).trans h2,(k.cell (p:=⟨w.heap.size+1,0,none⟩) (by show w.heap.size+1<_;omega)).trans h3,(k.cell (p:=⟨w.heap.size+1,1,none⟩) (by show w.heap.size+1<_;omega)).trans h4⟩,hx.below k⟩
theorem yP {w X:World} {p q:Bool} {mp mq x y:Value} (h:(w.heap.size+1+1<X.heap.size∧X.cell? ⟨w.heap.size,0,none⟩=some (.bool p)∧X.cell? ⟨w.heap.size,1,none⟩=some mp∧X.cell? ⟨w.heap.size+1,0,none⟩=some (.bool q)∧X.cell? ⟨w.heap.size+1,1,none⟩=some mq)∧Ext w X):(w.heap.size+1+1<((X.setCell ⟨w.heap.size+1+1,0,none⟩ x).setCell ⟨w.heap.size+1+1,1,none⟩ y).heap.size∧((X.setCell ⟨w.heap.size+1+1,0,none⟩ x).setCell ⟨w.heap.size+1+1,1,none⟩ y).cell? ⟨w.heap.size,0,none⟩=some (.bool p)∧((X.setCell ⟨w.heap.size+1+1,0,none⟩ x).setCell ⟨w.heap.size+1+1,1,none⟩ y).cell? ⟨w.heap.size,1,none⟩=some mp∧((X.setCell ⟨w.heap.size+1+1,0,none⟩ x).setCell ⟨w.heap.size+1+1,1,none⟩ y).cell? ⟨w.heap.size+1,0,none⟩=some (.bool q)∧((X.setCell ⟨w.heap.size+1+1,0,none⟩ x).setCell ⟨w.heap.size+1+1,1,none⟩ y).cell? ⟨w.heap.size+1,1,none⟩=some mq)∧Ext w ((X.setCell ⟨w.heap.size+1+1,0,none⟩ x).setCell ⟨w.heap.size+1+1,1,none⟩ y):=by
 obtain ⟨⟨h0,h1,h2,h3,h4⟩,hx⟩:=h
 have hc:∀ a:Addr,a.block≠w.heap.size+1+1→((X.setCell ⟨w.heap.size+1+1,0,none⟩ x).setCell ⟨w.heap.size+1+1,1,none⟩ y).cell? a=X.cell? a:=fun a ha=>by
  rw [World.cell?_setCell_other _ _ _ _ (fun e=>ha (by rw [← e])),World.cell?_setCell_other _ _ _ _ (fun e=>ha (by rw [← e]))]
 refine ⟨⟨by simpa using h0,?_,?_,?_,?_⟩,hx.dA (by omega) _ _⟩
 · rw [hc _ (by show w.heap.size≠_;omega)];exact h1
 · rw [hc _ (by show w.heap.size≠_;omega)];exact h2
 · rw [hc _ (by show w.heap.size+1≠_;omega)];exact h3
 · rw [hc _ (by show w.heap.size+1≠_;omega)];exact h4
end Go.Proofs.YtfhcmggpojhegaaGreatDoor
namespace Go.Proofs.YtfhcmggpojhegaaGreatDoor
open Go.RowKit
set_option linter.all false
set_option maxRecDepth 100000
set_option maxHeartbeats 8000000
theorem sW (p q:Bool) (n m:Nat) (hm:m≠0) (h:p=false∨n%m=0):sg (!(p==q)) (n/m)=sg p n/sg q m∧((n%m:Nat):Int)=sg p n%sg q m:=by
 have e:=Nat.div_add_mod n m
 have hl:=Nat.mod_lt n (show m>0 by omega)
 have hd:(n:Int)/(m:Int)=((n/m:Nat):Int):=(Int.natCast_ediv n m).symm
 have hr:(n:Int)%(m:Int)=((n%m:Nat):Int):=(Int.natCast_emod n m).symm
 cases p
 · cases q
   · exact ⟨hd.symm,hr.symm⟩
   · constructor
     · show -((n/m:Nat):Int)=(n:Int) / -(m:Int)
       rw [Int.ediv_neg,hd]
     · show ((n%m:Nat):Int)=(n:Int) % -(m:Int)
       rw [Int.emod_neg,hr]
 · have h0:n%m=0:=by
    rcases h with h | h
    · cases h
    · exact h
   rw [h0] at e hr ⊢
   have e2:(n:Int)=(m:Int)*((n/m:Nat):Int):=by rw [← Int.natCast_mul];omega
   have key : -(n:Int)/(m:Int) = -((n/m:Nat):Int) ∧ -(n:Int)%(m:Int)=0:=by
    have:=(Int.ediv_emod_unique (a := -(n:Int)) (b:=(m:Int)) (q := -((n/m:Nat):Int)) (r:=0) (by omega)).2 ⟨by rw [Int.mul_neg,← e2];omega,by omega,by omega⟩
    exact this
   cases q
   · exact ⟨key.1.symm,key.2.symm⟩
   · constructor
     · show ((n/m:Nat):Int) = -(n:Int) / -(m:Int)
       rw [Int.ediv_neg,key.1,Int.neg_neg]
     · show ((0:Nat):Int) = -(n:Int) % -(m:Int)
       rw [Int.emod_neg,key.2];rfl
theorem yQ (q:Bool) (n m:Nat) (hm:m≠0) (h:n%m≠0):sg (!(true==q)) (n/m+1)=sg true n/sg q m∧((m-n%m:Nat):Int)=sg true n%sg q m:=by
 have e:=Nat.div_add_mod n m
 have hl:=Nat.mod_lt n (show m>0 by omega)
 have e2:(n:Int)=(m:Int)*((n/m:Nat):Int)+((n%m:Nat):Int):=by rw [← Int.natCast_mul];omega
 generalize n%m=r at *
 generalize n/m=d at *
 have hmr:((m-r:Nat):Int)=(m:Int)-(r:Int):=by omega
 have e3:(m:Int) * -((d+1:Nat):Int) = -((m:Int)*(d:Int))-(m:Int):=by
  rw [Int.natCast_add,Int.mul_neg,Int.mul_add];omega
 have key : -(n:Int)/(m:Int) = -((d+1:Nat):Int) ∧ -(n:Int)%(m:Int)=((m-r:Nat):Int):=by
  have:=(Int.ediv_emod_unique (a := -(n:Int)) (b:=(m:Int)) (q := -((d+1:Nat):Int)) (r:=((m-r:Nat):Int)) (by omega)).2 ⟨by rw [e3,hmr,e2];omega,by omega,by omega⟩
  exact this
 cases q
 · exact ⟨key.1.symm,key.2.symm⟩
 · constructor
   · show ((d+1:Nat):Int) = -(n:Int) / -(m:Int)
     rw [Int.ediv_neg,key.1,Int.neg_neg]
   · show ((m-r:Nat):Int) = -(n:Int) % -(m:Int)
     rw [Int.emod_neg,key.2]
def ZdD (w w':World) (e:Ending) (q r:Int):Prop:=(∃ x y,e = .returned (.tuple #[x,y,.int .i64 0])∧Zn w' x q∧Zn w' y r)∧Ext w w'
theorem jQ (w:World) (va vb:Value) (a b:Int) (ha:Zn w va a) (hb:Zn w vb b) (hl:(limbs a.natAbs).length≤1000) (hl2:(limbs b.natAbs).length≤1000) (h0:b≠0) (x y:Int) (hx:a/b=x) (hy:a%b=y) :
  Calls Tryz.prog 84 #[va,vb] w fun e w'=>ZdD w w' e x y:=by
 unfold ZdD
 obtain ⟨p,A,L,c,n,rfl,hu,hL,hz,-,hza,hzn⟩:=ha.open
 obtain ⟨q,B,K,d,m,rfl,hv,hK,hz2,-,iF,jV⟩:=hb.open
 rw [hza] at hl
 rw [iF] at hl2
 have hm0:m≠0:=by omega
 obtain ⟨Q,hQ⟩:∃ Q,n/m=Q:=⟨_,rfl⟩
 obtain ⟨R,hR⟩:∃ R,n%m=R:=⟨_,rfl⟩
 have hQl:(limbs Q).length≤1000:=Nat.le_trans (eZ (by rw [← hQ];exact Nat.div_le_self _ _)) hl
 have hRm:R<m:=by rw [← hR];exact Nat.mod_lt _ (by omega)
 have hRl:(limbs R).length≤1000:=Nat.le_trans (eZ (by omega)) hl2
 have hE0:=((((Ext.refl w).alloc (.cells #[.bool p,.slice A L c] 48)).alloc (.cells #[.bool q,.slice B K d] 48)).alloc (.cells #[.bool false,.slice none 0 0] 48)).alloc (.cells #[.bool false,.slice none 0 0] 48)
 have hI0:=(Ib.vV w (.cells #[.bool p,.slice A L c] 48) (.cells #[.bool q,.slice B K d] 48) false (.slice none 0 0) 48).ext ((Ext.refl _).alloc (.cells #[.bool false,.slice none 0 0] 48))
 have hJ0:=Ib.vV (w.alloc (.cells #[.bool p,.slice A L c] 48)) (.cells #[.bool q,.slice B K d] 48) (.cells #[.bool false,.slice none 0 0] 48) false (.slice none 0 0) 48
 have hN:(w.alloc (.cells #[.bool p,.slice A L c] 48)).heap.size=w.heap.size+1:=by simp
 rw [hN] at hJ0
 have lC:=(Ib.new w p (.slice A L c) 48).ext ((((Ext.refl _).alloc (.cells #[.bool q,.slice B K d] 48)).alloc (.cells #[.bool false,.slice none 0 0] 48)).alloc (.cells #[.bool false,.slice none 0 0] 48))
 have nL:=(Ib.new2 w (.cells #[.bool p,.slice A L c] 48) q (.slice B K d) 48).ext (((Ext.refl _).alloc (.cells #[.bool false,.slice none 0 0] 48)).alloc (.cells #[.bool false,.slice none 0 0] 48))
 have hD:=Lib.hid (iI _ (.slice A L c) (.slice B K d) n m Q R (hu.below hE0) (hv.below hE0) hl hl2 hm0 hQ hR)
 have hv0:=hv.below hE0
 have hcs:=nR R
 obtain ⟨LR,VU⟩:∃ L,(limbs R).length=L:=⟨_,rfl⟩
 have Zh:=Lib.hid VU
 rw [VU] at hcs
 by_cases hsp:p=true∧R≠0
 · obtain ⟨rfl,hR0⟩:=hsp
   obtain ⟨k1,k2⟩:=yQ q n m hm0 (by rw [hR];exact hR0)
   rw [hQ,← hz,← hz2,hx] at k1
   rw [hR,← hz,← hz2,hy] at k2
   have hAd:=Lib.hid (fun W v u h g=>jA W v u Q 1 h g (by omega) D7 (Q+1) rfl)
   have hSb:=Lib.hid (fun W v h g=>vF W (.slice B K d) v m R h g (by omega) true (decide_eq_true (by omega)) (m-R) rfl)
   rw [show (!(true==q)) = !q by cases q<;>rfl] at k1
   have hM1:=Lib.hid (fun W v (h:Un W v (Q+1))=>iq W (!q) v (limbs (Q+1)) h (Q+1) (aO _) x k1)
   have hM2:=Lib.hid (fun W v (h:Un W v (m-R))=>iq W false v (limbs (m-R)) h (m-R) (aO _) y k2)
   have hlr:0<LR:=by omega
   have am1:(0:Int)<(LR:Int):=by omega
   clear hl hl2 hza hzn iF jV hz hz2 hL hK ha hb hu hv hN hx hy hQ hR h0 hm0 hcs VU k1 k2 hRm hR0
   unfold Dv at hD
   go_enter Tryz.func84,Tryz.ntmps84
   go_upto_region 7 with (first
    | (go_at_call 18;refine hD.out.mono ?_;rintro e w2 ⟨⟨vq,vr,rfl,yL,rX⟩,hE2⟩;obtain ⟨A2,c2,rfl,-⟩:=Un.sh yL;obtain ⟨A3,c3,rfl,-⟩:=Un.sh rX;rw [Zh.out] at rX ⊢;obtain ⟨p0,p1,p2,p3,p4⟩:=lC.ext hE2)
    | (go_at_call 13;refine (hAd.out _ _ _ (Un.below yL ((Ext.refl _).alloc _)) (rE _)).mono ?_;rintro e w4 ⟨u4,rfl,BV,bX⟩;have vW:=((Ext.refl w2).alloc (.cells #[.int .u32 1] 27)).below bX;obtain ⟨A4,c4,rfl,-⟩:=Un.sh BV;obtain ⟨q0,q1,q2,q3,q4⟩:=(nL.ext hE2).ext vW;have ahQ:=Un.below rX vW;have hv4:=(Un.below hv0 hE2).below vW)
    | (go_at_call 127;refine (hSb.out _ _ hv4 ahQ).mono ?_;rintro e w5 ⟨u5,rfl,NK,bE⟩;obtain ⟨A5,c5,rfl,-⟩:=Un.sh NK;obtain ⟨p0,p1,p2,p3,p4⟩:=((lC.ext hE2).ext vW).ext bE;obtain ⟨q0,q1,q2,q3,q4⟩:=((nL.ext hE2).ext vW).ext bE;have ahR:=Un.below BV bE))
   go_wp2_with (fail)
   refine (hM1.out _ _ ahR).mono ?_
   rintro e w6 ⟨u6,rfl,Zi,bu⟩
   obtain ⟨b6,A6,L6,c6,rfl⟩:=Zi.sh
   go_wp2_with (fail)
   refine (hM2.out _ _ (Un.below NK bu)).mono ?_
   rintro e w7 ⟨u7,rfl,Vp,cB⟩
   obtain ⟨b7,A7,L7,c7,rfl⟩:=Vp.sh
   have QL:=((((hI0.ext hE2).ext vW).ext bE).ext bu).ext cB
   have QM:=((((hJ0.ext hE2).ext vW).ext bE).ext bu).ext cB
   obtain ⟨i0,i1,i2,i3,i4⟩:=id QL
   obtain ⟨j0,j1,j2,j3,j4⟩:=id QM
   have Zj:=Lib.hid QL
   have Zk:=Lib.hid QM
   have hZ6:=Zi.below cB
   have hEE:=((((hE0.below hE2).below vW).below bE).below bu).below cB
   clear QL QM
   go_wp2
   (try simp only [Exit.inBlock,Exit.then])
   refine bodyPost_ret (v:=.tuple #[.agg #[.bool b6,.slice A6 L6 c6],.agg #[.bool b7,.slice A7 L7 c7],.int .i64 0]) (show (results _ _).run _ _=_ from ?_) rfl ⟨⟨_,_,rfl,(hZ6.dA Zj.out (aP _ _ _) _ _).dA (Zk.out.other (by omega) _ _) (aP _ _ _) _ _,(Vp.dA Zj.out (aP _ _ _) _ _).dA (Zk.out.other (by omega) _ _) (aP _ _ _) _ _⟩,(hEE.dA (by omega) _ _).dA (by omega) _ _⟩
   simp only [results]
   go_simp
 · have hpr:p=false∨R=0:=by
    cases p
    · exact .inl rfl
    · right
      rcases Nat.eq_zero_or_pos R with h | h
      · exact h
      · exact absurd ⟨rfl,by omega⟩ hsp
   obtain ⟨k1,k2⟩:=sW p q n m hm0 (by rw [hR];exact hpr)
   rw [hQ,← hz,← hz2,hx] at k1
   rw [hR,← hz,← hz2,hy] at k2
   have hM1:=Lib.hid (fun W v (h:Un W v Q)=>iq W (!(p==q)) v (limbs Q) h Q (aO _) x k1)
   have hM2:=Lib.hid (fun W v (h:Un W v R)=>iq W false v (limbs R) h R (aO _) y k2)
   have hcase:p=false∨(p=true∧LR=0):=by
    rcases hpr with h | h
    · exact .inl h
    · cases p
      · exact .inl rfl
      · exact .inr ⟨rfl,by omega⟩
   clear hl hl2 hza hzn iF jV hz hz2 hL hK ha hb hu hv hN hx hy hQ hR h0 hm0 hcs VU k1 k2 hRm hsp hpr
   unfold Dv at hD
   rcases hcase with rfl | ⟨rfl,rfl⟩
   case' inl=>rw [show (!(false==q))=q by cases q<;>rfl] at hM1
   case' inr=>rw [show (!(true==q)) = !q by cases q<;>rfl] at hM1
   all_goals (
    go_enter Tryz.func84,Tryz.ntmps84
    go_upto_region 7 with (first
     | (go_at_call 18;refine hD.out.mono ?_;rintro e w5 ⟨⟨vq,vr,rfl,yL,rX⟩,bE⟩;obtain ⟨A2,c2,rfl,-⟩:=Un.sh yL;obtain ⟨A3,c3,rfl,-⟩:=Un.sh rX;rw [Zh.out] at rX ⊢;obtain ⟨p0,p1,p2,p3,p4⟩:=lC.ext bE;obtain ⟨q0,q1,q2,q3,q4⟩:=nL.ext bE))
    go_wp2_with (fail)
    refine (hM1.out _ _ yL).mono ?_
    rintro e w6 ⟨u6,rfl,Zi,bu⟩
    obtain ⟨b6,A6,L6,c6,rfl⟩:=Zi.sh
    go_wp2_with (fail)
    refine (hM2.out _ _ (Un.below rX bu)).mono ?_
    rintro e w7 ⟨u7,rfl,Vp,cB⟩
    obtain ⟨b7,A7,L7,c7,rfl⟩:=Vp.sh
    have QL:=((hI0.ext bE).ext bu).ext cB
    have QM:=((hJ0.ext bE).ext bu).ext cB
    obtain ⟨i0,i1,i2,i3,i4⟩:=id QL
    obtain ⟨j0,j1,j2,j3,j4⟩:=id QM
    have Zj:=Lib.hid QL
    have Zk:=Lib.hid QM
    have hZ6:=Zi.below cB
    have hEE:=((hE0.below bE).below bu).below cB
    clear QL QM
    go_wp2
    (try simp only [Exit.inBlock,Exit.then])
    refine bodyPost_ret (v:=.tuple #[.agg #[.bool b6,.slice A6 L6 c6],.agg #[.bool b7,.slice A7 L7 c7],.int .i64 0]) (show (results _ _).run _ _=_ from ?_) rfl ⟨⟨_,_,rfl,(hZ6.dA Zj.out (aP _ _ _) _ _).dA (Zk.out.other (by omega) _ _) (aP _ _ _) _ _,(Vp.dA Zj.out (aP _ _ _) _ _).dA (Zk.out.other (by omega) _ _) (aP _ _ _) _ _⟩,(hEE.dA (by omega) _ _).dA (by omega) _ _⟩
    simp only [results]
    go_simp)
end Go.Proofs.YtfhcmggpojhegaaGreatDoor
namespace Go.Proofs.YtfhcmggpojhegaaGreatDoor
open Go.RowKit
set_option linter.all false
set_option maxRecDepth 100000
set_option maxHeartbeats 8000000
theorem qh (w:World):(Instr.alloc 48 true (.tuple #[])).run Tryz.prog w = .ok (.pointer (some ⟨w.heap.size,0,none⟩)) (w.alloc (.cells #[.bool false,.slice none 0 0] 48)):=by go_simp
theorem mE {w:World} {N:Nat} {b0:Bool} {A0:Option Addr} {n0 c0:Nat} (h:Ib w N b0 (.slice A0 n0 c0)) (b:Bool) (A:Option Addr) (n c:Nat) :
  (Instr.storeAt 48 (.pointer (some ⟨N,0,none⟩)) (.agg #[.bool b,.slice A n c])).run Tryz.prog w = .ok () ((w.setCell ⟨N,0,none⟩ (.bool b)).setCell ⟨N,1,none⟩ (.slice A n c))∧Ib ((w.setCell ⟨N,0,none⟩ (.bool b)).setCell ⟨N,1,none⟩ (.slice A n c)) N b (.slice A n c):=by
 obtain ⟨h0,h1,h2,h3,h4⟩:=h
 refine ⟨?_,?_,?_,?_,?_,?_⟩
 all_goals go_simp
section
variable {L:List Oper} {S:World→Prop} {K:List (Nat × Value)→World→Prop} {i m d:Nat} {o:Oper} {x y:Operand} {r:List (Bool × Nat × Nat)} {l:List (Nat × Value)} {w:World} {b b0:Bool} {A A0:Option Addr} {n c n0 c0 N:Nat}
theorem bW (ho:Pl.nth L i=some o) (hp:o.op = .alloc 48) (hd:o.dst=some d) (hg:o.guard=none) (hS:∀ Y,Ext w Y→S Y)
  (h:∀ N w',Ext w w'→w.heap.size≤N→Ib w' N false (.slice none 0 0)→Pl.dO Tryz.prog L S K r ((d,.pointer (some ⟨N,0,none⟩))::l) w'):Pl.dO Tryz.prog L S K ((false,i,m)::r) l w:=by
 have e1:=(Ext.refl w).alloc (.cells #[.bool false,.slice none 0 0] 48)
 exact Pl.sM ho hp hd (by rw [hg];rfl) (qh w) (hS _ e1) (h _ _ e1 (Nat.le_refl _) (Ib.new w false (.slice none 0 0) 48))
theorem lG (ho:Pl.nth L i=some o) (hp:o.op = .store 48 x y) (hd:o.dst=none) (hg:o.guard=none) (hx:Pl.dF l x=some (.pointer (some ⟨N,0,none⟩))) (hy:Pl.dF l y=some (.agg #[.bool b,.slice A n c]))
  (hI:Ib w N b0 (.slice A0 n0 c0)) (hS:∀ Y,(∀ w0,Ext w0 w→w0.heap.size≤N→Ext w0 Y)→S Y)
  (h:∀ w',(∀ w0,Ext w0 w→w0.heap.size≤N→Ext w0 w')→(∀ v z,Zn w v z→Zn w' v z)→(∀ M b m,M≠N→Ib w M b m→Ib w' M b m)→Ib w' N b (.slice A n c)→Pl.dO Tryz.prog L S K r l w'):Pl.dO Tryz.prog L S K ((false,i,m)::r) l w:=by
 obtain ⟨r1,I1⟩:=mE hI b A n c
 have T1:∀ w0,Ext w0 w→w0.heap.size≤N→Ext w0 ((w.setCell ⟨N,0,none⟩ (.bool b)).setCell ⟨N,1,none⟩ (.slice A n c)):=fun w0 h hN=>h.dA hN _ _
 exact Pl.aW ho hp hd (by rw [hg];rfl) hx hy r1 (hS _ T1) (h _ T1 (fun v z hz=>hz.dA hI (aP _ _ _) _ _) (fun M b m hne hM=>hM.other hne _ _) I1)
end
end Go.Proofs.YtfhcmggpojhegaaGreatDoor
namespace Go.Proofs.YtfhcmggpojhegaaGreatDoor
open Go.RowKit
set_option linter.all false
set_option maxRecDepth 100000
set_option maxHeartbeats 8000000
theorem JU {x y:Operand} {a b:Int} {v:Bool} (h:(a==b)=v) (X:World):(do eqGuard .eql 3 x y (.int .i64 a) (.int .i64 b);binOp .eql 3 (.int .i64 a) (.int .i64 b):Sem Value).run Tryz.prog X = .ok (.bool v) X:=by
 subst h;go_simp
theorem afZ {x y:Operand} {a b:Int} {v:Bool} (h:(a != b)=v) (X:World):(do eqGuard .neq 3 x y (.int .i64 a) (.int .i64 b);binOp .neq 3 (.int .i64 a) (.int .i64 b):Sem Value).run Tryz.prog X = .ok (.bool v) X:=by
 subst h;go_simp
theorem Ib.mag {X:World} {N:Nat} {b:Bool} {m:Value} (h:Ib X N b m):(Instr.loadAt 22 (.pointer (some ⟨N,1,none⟩))).run Tryz.prog X = .ok m X:=by
 obtain ⟨h0,h1,h2,h3,h4⟩:=h
 go_simp
theorem aiH (N:Nat) (X:World):(Instr.fieldAt 48 (.pointer (some ⟨N,0,none⟩)) 1).run Tryz.prog X = .ok (.pointer (some ⟨N,1,none⟩)) X:=by go_simp
section
variable {L:List Oper} {S:World→Prop} {K:List (Nat × Value)→World→Prop} {k:Bool} {i m d:Nat} {o:Oper} {x:Operand} {r:List (Bool × Nat × Nat)} {l:List (Nat × Value)} {w:World}
end
theorem Zn.mag {w:World} {p:Bool} {A:Option Addr} {n c:Nat} {z:Int} (h:Zn w (.agg #[.bool p,.slice A n c]) z):Un w (.slice A n c) z.natAbs:=by
 obtain ⟨A',c',e,hu⟩:=h
 simp only [Value.agg.injEq,Array.mk.injEq,List.cons.injEq,Value.slice.injEq] at e
 obtain ⟨_,⟨rfl,rfl,rfl⟩,_⟩:=e
 exact hu
end Go.Proofs.YtfhcmggpojhegaaGreatDoor
namespace Go.Proofs.YtfhcmggpojhegaaGreatDoor
open Go.RowKit
set_option linter.all false
set_option maxRecDepth 100000
set_option maxHeartbeats 8000000
section
variable {x y:Operand} {X:World}
theorem Zl {a b c:Nat} {z:Int} (hz':z=(b:Int)) (h:a%b=c) (h0:0<b) (ha:a≤1000000) (hb:b≤1000000) (X:World):(do eqGuard .rem 3 x y (.int .i64 (a:Int)) (.int .i64 z);binOp .rem 3 (.int .i64 (a:Int)) (.int .i64 z):Sem Value).run Tryz.prog X = .ok (.int .i64 (c:Int)) X:=by
 subst hz'
 have e:Int.tmod (a:Int) (b:Int)=(c:Int):=by rw [← h];rfl
 have hc:c<b:=h ▸ Nat.mod_lt _ h0
 have w1:IntKind.i64.wrap (c:Int)=(c:Int):=IntWalk.i64_in _ (by omega)
 have hz:¬ ((b:Int)=0):=by omega
 have hn:¬ b=0:=by omega
 clear h hc
 go_simp
section
variable {L:List Oper} {S:World→Prop} {K:List (Nat × Value)→World→Prop} {k:Bool} {i m d:Nat} {o:Oper} {r:List (Bool × Nat × Nat)} {l:List (Nat × Value)} {w:World}
end
end
theorem AY {L:List Oper} {S:World→Prop} {K:List (Nat × Value)→World→Prop} {i m d:Nat} {o:Oper} {x:Operand} {r:List (Bool × Nat × Nat)} {l:List (Nat × Value)} {w:World} {n:Nat} (hn:n<4294967296)
  (ho:Pl.nth L i=some o) (hp:o.op = .buildSlice 22 1 #[(0,x)]) (hd:o.dst=some d) (hg:Pl.gd L l o.guard=some true) (hx:Pl.dF l x=some (.int .u32 (n:Int))) (hS:∀ Y,Ext w Y→S Y)
  (h:∀ A w',Ext w w'→U w' (.slice A 1 1) [n]→Pl.dO Tryz.prog L S K r ((d,.slice A 1 1)::l) w'):Pl.dO Tryz.prog L S K ((false,i,m)::r) l w:=by
 have e1:=(Ext.refl w).alloc (.cells #[.int .u32 (n:Int)] 27)
 refine Pl.mh (w':=w.alloc (.cells #[.int .u32 (n:Int)] 27)) (v:=.slice (some ⟨w.heap.size,0,none⟩) 1 1) ho hd hg (fun ρ hρ=>?_) (hS _ e1) (h _ _ e1 ?_)
 · unfold execOp;rw [hp]
   refine Pl.kJ _ ?_
   have e:=hρ.dF hx
   simp only [List.map_toArray,List.map_cons,List.map_nil]
   go_simp
 · refine ⟨some ⟨w.heap.size,0,none⟩,1,rfl,⟨Nat.le_refl _,by show 1≤_;decide⟩,fun x hx=>?_,fun _=>⟨⟨w.heap.size,0,none⟩,rfl,by simp,fun j hj=>?_⟩⟩
   · obtain rfl:x=n:=by simpa using hx
     exact hn
   · obtain rfl:j=0:=by simp at hj;omega
     have:lb [n] 0=n:=rfl
     go_simp
end Go.Proofs.YtfhcmggpojhegaaGreatDoor
namespace Go.Proofs.YtfhcmggpojhegaaGreatDoor
open Go.RowKit
set_option linter.all false
set_option maxRecDepth 100000
set_option maxHeartbeats 8000000
theorem EO {n:Nat}:(((limbs n).length:Int)==0)=decide (n=0):=by
 by_cases h:n=0
 · subst h;rw [bf];rfl
 · have:=KM (Nat.pos_of_ne_zero h)
   rw [decide_eq_false h,beq_eq_false_iff_ne];omega
end Go.Proofs.YtfhcmggpojhegaaGreatDoor
namespace Go.Proofs.YtfhcmggpojhegaaGreatDoor
open Go.RowKit
set_option linter.all false
set_option maxRecDepth 100000
set_option maxHeartbeats 8000000
theorem Un.Xf {w:World} {v:Value} {n:Nat} (h:Un w v n):∃ A c,v = .slice A (limbs n).length c:=by
 obtain ⟨A',c',e,_⟩:=h;exact ⟨A',c',e⟩
/-! Contracts. -/
/-! Comparisons of what nat.Cmp tells. -/
section
variable {P:Program} {T:TypeId} {x y:Operand} {n m:Nat}
end
/-! Numbers of the kinds. -/
section
variable {P:Program} {T:TypeId} {x y:Operand} {a b:Nat} {za zb:Int}
end
/-! Ways out of loops and blocks. -/
section
variable {P:Program} {Q:Exit→Act→World→Prop} {n:Nat} {ds:List Deferred} {cs:List Code} {l:List (Nat × Value)} {w:World}
end
section
variable {P:Program} {L:List Oper} {S:World→Prop} {K:List (Nat × Value)→World→Prop} {kk:Bool} {i m d:Nat} {o:Oper} {x y:Operand} {r:List (Bool × Nat × Nat)} {l:List (Nat × Value)} {w:World} {k:IntKind} {a b:Nat}
end
end Go.Proofs.YtfhcmggpojhegaaGreatDoor
namespace Go.Proofs.YtfhcmggpojhegaaGreatDoor
open Go.RowKit
set_option linter.all false
set_option maxRecDepth 100000
set_option maxHeartbeats 8000000
theorem yR (w:World) (q:Value):Calls Tryz.prog 147 #[q] w fun e w'=>e = .returned (.tuple #[])∧w'=w:=by
 refine Pl.aZ (n:=2) (vs:=[q]) Tryz.func147 rfl (by kernel_rfl) (by simp) ?_
 exact Pl.bM (Pl.kV rfl ⟨rfl,rfl⟩)
end Go.Proofs.YtfhcmggpojhegaaGreatDoor
namespace Go.Proofs.YtfhcmggpojhegaaGreatDoor
open Go.RowKit
set_option linter.all false
set_option maxRecDepth 100000
set_option maxHeartbeats 8000000
theorem vX (w:World) (f:FuncId) (fs:List Value) (vx vy:Value) (x y x' y':Nat) (N1 N2 N3:Nat) (T1 T2 T3:TypeId) (s k:Int) (hx:Un w vx x) (hy:Un w vy y)
  (h1:Cb w N1 T1 [vx]) (h2:Cb w N2 T2 [vy]) (h3:Cb w N3 T3 [.int .i64 s]) (n12:N1≠N2) (n13:N1≠N3) (n23:N2≠N3) (hs : -1000000000≤s+k∧s+k≤1000000000)
  (hen:∀ (u:Array Value) X,(callFunc f u).run Tryz.prog X = .ok (.enter f u) X)
  (ht:Calls Tryz.prog f (fs++([vx,vy]++[])).toArray w fun e w'=>∃ a b,e = .returned (.tuple #[a,b])∧Un w' a x'∧Un w' b y'∧Ext w w') :
  Calls Tryz.prog 146 #[.func (.func f) fs.toArray #[],.int .i64 k,.pointer (some ⟨N1,0,none⟩),.pointer (some ⟨N2,0,none⟩),.pointer (some ⟨N3,0,none⟩)] w fun e w'=>e = .returned (.tuple #[])∧∃ a b,Un w' a x'∧Un w' b y' ∧
   Cb w' N1 T1 [a]∧Cb w' N2 T2 [b]∧Cb w' N3 T3 [.int .i64 (s+k)]∧Xt [N1,N2,N3] w w':=by
 obtain ⟨A1,c1,rfl,-⟩:=Un.sh hx
 obtain ⟨A2,c2,rfl,-⟩:=Un.sh hy
 refine Pl.aZ (n:=17) (vs:=[.func (.func f) fs.toArray #[],.int .i64 k,.pointer (some ⟨N1,0,none⟩),.pointer (some ⟨N2,0,none⟩),.pointer (some ⟨N3,0,none⟩)]) Tryz.func146 rfl (by kernel_rfl) (by simp) ?_
 refine Pl.ay ?_
 refine Pl.ak (by kernel_rfl) ?_
 refine Pl.aA trivial rfl rfl rfl rfl rfl ?_
 refine Pl.aH trivial rfl rfl rfl rfl rfl (Cb.limbs h1) ?_
 refine Pl.aH trivial rfl rfl rfl rfl rfl (Cb.limbs h2) ?_
 refine Pl.gG rfl rfl rfl rfl rfl rfl hen ?_
 refine Calls.mono ht ?_
 rintro e w1 ⟨a,b,rfl,ha,hb,hB1⟩
 obtain ⟨A3,c3,rfl,-⟩:=Un.sh ha
 obtain ⟨A4,c4,rfl,-⟩:=Un.sh hb
 refine ⟨_,rfl,trivial,?_⟩
 refine Pl.aA trivial rfl rfl rfl rfl rfl ?_
 refine Pl.aL trivial rfl rfl rfl rfl rfl rfl ?_
 refine Pl.aL trivial rfl rfl rfl rfl rfl rfl ?_
 have k1:=Cb.ext h1 hB1
 have k2:=Cb.ext h2 hB1
 have k3:=Cb.ext h3 hB1
 have s1:=Cb.dN k1 A3 (limbs x').length c3
 have x1:=Xt.set (Bs:=[N1,N2,N3]) k1 (bP _ _ _) (by simp) 0 (.slice A3 (limbs x').length c3)
 have k1':=Cb.set k1 0 (.slice A3 (limbs x').length c3)
 have k2':=Cb.setOther k2 N1 0 (.slice A3 (limbs x').length c3) (Ne.symm n12)
 have k3':=Cb.setOther k3 N1 0 (.slice A3 (limbs x').length c3) (Ne.symm n13)
 generalize w1.setCell ⟨N1,0,none⟩ (.slice A3 (limbs x').length c3)=w2 at *
 refine Pl.aW rfl rfl rfl rfl rfl rfl s1 trivial ?_
 have s2:=Cb.dN k2' A4 (limbs y').length c4
 have x2:=Xt.set (Bs:=[N1,N2,N3]) k2' (bP _ _ _) (by simp) 0 (.slice A4 (limbs y').length c4)
 have m2:=Cb.set k2' 0 (.slice A4 (limbs y').length c4)
 have m1:=Cb.setOther k1' N2 0 (.slice A4 (limbs y').length c4) n12
 have m3:=Cb.setOther k3' N2 0 (.slice A4 (limbs y').length c4) (Ne.symm n23)
 generalize w2.setCell ⟨N2,0,none⟩ (.slice A4 (limbs y').length c4)=w3 at *
 refine Pl.aW rfl rfl rfl rfl rfl rfl s2 trivial ?_
 refine Pl.aj ?_
 refine Pl.ak (by kernel_rfl) ?_
 refine Pl.aH trivial rfl rfl rfl rfl rfl (Cb.int m3) ?_
 refine Pl.aA trivial rfl rfl rfl rfl rfl ?_
 refine Pl.aN (v:=.int .i64 (s+k)) trivial rfl rfl rfl rfl rfl rfl (fun X=>nM rfl hs.1 hs.2 X) ?_
 have s3:=Cb.sG m3 (s+k)
 have x3:=Xt.set (Bs:=[N1,N2,N3]) m3 (mO _) (by simp) 0 (.int .i64 (s+k))
 have p3:=Cb.set m3 0 (.int .i64 (s+k))
 have p1:=Cb.setOther m1 N3 0 (.int .i64 (s+k)) n13
 have p2:=Cb.setOther m2 N3 0 (.int .i64 (s+k)) n23
 generalize w3.setCell ⟨N3,0,none⟩ (.int .i64 (s+k))=w4 at *
 refine Pl.aW rfl rfl rfl rfl rfl rfl s3 trivial ?_
 refine Pl.aj ?_
 have kp:=x1.kp.trans (x2.kp.trans x3.kp)
 exact Pl.kV rfl ⟨rfl,_,_,Un.kp ha kp,Un.kp hb kp,p1,p2,p3,(Xt.ext hB1).trans (x1.trans (x2.trans x3))⟩
end Go.Proofs.YtfhcmggpojhegaaGreatDoor
namespace Go.Proofs.YtfhcmggpojhegaaGreatDoor
open Go.RowKit
set_option linter.all false
set_option maxRecDepth 100000
set_option maxHeartbeats 8000000
theorem NQ (l:List Nat) (s:Bool) (p q:Nat):cf l (alt s p) (alt (!s) q)=(alt (s ^^ decide (l.length%2=1)) (cs l p q).1,alt (!(s ^^ decide (l.length%2=1))) (cs l p q).2):=by
 induction l generalizing s p q with
 | nil=>simp [cf,cs]
 | cons k l ih =>
  have e:alt s p-(k:Int)*alt (!s) q=alt (!(!s)) (p+k*q):=by
   cases s<;>simp [alt,Int.mul_neg]<;>omega
  have h:=ih (!s) q (p+k*q)
  show cf l (alt (!s) q) (alt s p-k*alt (!s) q)=_
  rw [e,h]
  have h3:((!s) ^^ decide (l.length%2=1))=(s ^^ decide ((k::l).length%2=1)):=by
   rcases Nat.mod_two_eq_zero_or_one l.length with h2 | h2
   · have h4:(k::l).length%2=1:=by rw [List.length_cons];omega
     cases s<;>simp only [h2,h4]<;>rfl
   · have h4:(k::l).length%2=0:=by rw [List.length_cons];omega
     cases s<;>simp only [h2,h4]<;>rfl
  rw [h3]
  rfl
end Go.Proofs.YtfhcmggpojhegaaGreatDoor
namespace Go.Proofs.YtfhcmggpojhegaaGreatDoor
open Go.RowKit
set_option linter.all false
set_option maxRecDepth 100000
set_option maxHeartbeats 8000000
section
variable {L:List Oper} {S:World→Prop} {K:List (Nat × Value)→World→Prop} {k:Bool} {i m d:Nat} {o:Oper} {x y:Operand} {r:List (Bool × Nat × Nat)} {l:List (Nat × Value)} {w:World}
theorem Cz {t:Array TypeId} {a b:Int} (hS:S w) (ho:Pl.nth L i=some o) (hop:o.op = .call { callee:=.builtin .min,args:=#[x,y],argTypes:=t }) (hd:o.dst=some d) (hg:Pl.gd L l o.guard=some true) (hx:Pl.dF l x=some (.int .i64 a)) (hy:Pl.dF l y=some (.int .i64 b))
  (h:Pl.dO Tryz.prog L S K r ((d,.int .i64 (if b<a then b else a))::l) w):Pl.dO Tryz.prog L S K ((k,i,m)::r) l w :=
 Pl.dB hS ho hd hg (fun ρ hρ X _=>by
  unfold execOp;rw [hop]
  refine Pl.fJ (Builtin.min_ _ _ (#[x,y].map ρ)) X ?_
  rw [show #[x,y].map ρ=#[.int .i64 a,.int .i64 b] from by simp [hρ.dF hx,hρ.dF hy]]
  exact run_min_int2 _ _ _ _ _ _ _) h
end
end Go.Proofs.YtfhcmggpojhegaaGreatDoor
namespace Go.Proofs.YtfhcmggpojhegaaGreatDoor
open Go.RowKit
set_option linter.all false
set_option maxRecDepth 100000
set_option maxHeartbeats 8000000
theorem Ga (p q:Bool) (n m:Nat):sg (!(p==q)) (n*m)=sg p n*sg q m:=by
 cases p<;>cases q<;>simp [sg,Int.mul_neg,Int.neg_mul]
theorem lT (w:World) (va vb:Value) (a b:Int) (ha:Zn w va a) (hb:Zn w vb b) (hl:(limbs a.natAbs).length≤398) (hl2:(limbs b.natAbs).length≤398) (y:Int) (hy:a*b=y) :
  Calls Tryz.prog 38 #[va,vb] w fun e w'=>∃ u,e = .returned u∧Zn w' u y∧Ext w w':=by
 obtain ⟨p,A,L,c,n,rfl,hu,hL,hz,-,hza,hzn⟩:=ha.open
 obtain ⟨q,B,K,d,m,rfl,hv,hK,hz2,-,iF,jV⟩:=hb.open
 rw [hza] at hl
 rw [iF] at hl2
 obtain ⟨k,hk⟩:∃ k,n*m=k:=⟨_,rfl⟩
 have hM:=Lib.hid (fun W h g=>mulN W (.slice A L c) (.slice B K d) n m k h g hl hl2 hk)
 have Vy:=Lib.hid (fun W v (h:Un W v k)=>iq W (!(p==q)) v (limbs k) h k (aO _) y (by rw [← hk,Ga,← hz,← hz2];exact hy))
 have hE0:=((((Ext.refl w).alloc (.cells #[.bool p,.slice A L c] 48)).alloc (.cells #[.bool q,.slice B K d] 48)).alloc (.cells #[.bool false,.slice none 0 0] 48)).drew
 have hI0:=(Ib.vV w (.cells #[.bool p,.slice A L c] 48) (.cells #[.bool q,.slice B K d] 48) false (.slice none 0 0) 48).ext (Ext.refl _).drew
 have lC:=(Ib.new w p (.slice A L c) 48).ext ((((Ext.refl _).alloc (.cells #[.bool q,.slice B K d] 48)).alloc (.cells #[.bool false,.slice none 0 0] 48)).drew)
 have nL:=(Ib.new2 w (.cells #[.bool p,.slice A L c] 48) q (.slice B K d) 48).ext (((Ext.refl _).alloc (.cells #[.bool false,.slice none 0 0] 48)).drew)
 have hu0:=hu.below hE0
 have hv0:=hv.below hE0
 obtain ⟨p0,p1,p2,p3,p4⟩:=id lC
 obtain ⟨q0,q1,q2,q3,q4⟩:=id nL
 clear hl hl2 hza hzn iF jV hz hz2 hL hK ha hb hy hk
 go_enter Tryz.func38,Tryz.ntmps38
 have hS0:(w.heap.size+1+1<(((w.alloc (.cells #[.bool p,.slice A L c] 48)).alloc (.cells #[.bool q,.slice B K d] 48)).alloc (.cells #[.bool false,.slice none 0 0] 48)).drew.heap.size∧(((w.alloc (.cells #[.bool p,.slice A L c] 48)).alloc (.cells #[.bool q,.slice B K d] 48)).alloc (.cells #[.bool false,.slice none 0 0] 48)).drew.cell? ⟨w.heap.size,0,none⟩=some (.bool p)∧(((w.alloc (.cells #[.bool p,.slice A L c] 48)).alloc (.cells #[.bool q,.slice B K d] 48)).alloc (.cells #[.bool false,.slice none 0 0] 48)).drew.cell? ⟨w.heap.size,1,none⟩=some (.slice A L c)∧(((w.alloc (.cells #[.bool p,.slice A L c] 48)).alloc (.cells #[.bool q,.slice B K d] 48)).alloc (.cells #[.bool false,.slice none 0 0] 48)).drew.cell? ⟨w.heap.size+1,0,none⟩=some (.bool q)∧(((w.alloc (.cells #[.bool p,.slice A L c] 48)).alloc (.cells #[.bool q,.slice B K d] 48)).alloc (.cells #[.bool false,.slice none 0 0] 48)).drew.cell? ⟨w.heap.size+1,1,none⟩=some (.slice B K d))∧Ext w (((w.alloc (.cells #[.bool p,.slice A L c] 48)).alloc (.cells #[.bool q,.slice B K d] 48)).alloc (.cells #[.bool false,.slice none 0 0] 48)).drew:=⟨⟨by simp,p1,p2,q1,q2⟩,hE0⟩
 clear p0 p1 p2 p3 p4 q0 q1 q2 q3 q4
 go_wp2
 go_region_held3 (fun X=>(w.heap.size+1+1<X.heap.size∧X.cell? ⟨w.heap.size,0,none⟩=some (.bool p)∧X.cell? ⟨w.heap.size,1,none⟩=some (.slice A L c)∧X.cell? ⟨w.heap.size+1,0,none⟩=some (.bool q)∧X.cell? ⟨w.heap.size+1,1,none⟩=some (.slice B K d))∧Ext w X)
  (first
   | exact hS0
   | exact yO (by assumption) (by assumption)
   | exact yP (by assumption))
  (first
   | (go_at_call 17;((with_reducible refine (hM.out _ hu0 hv0).mono ?_);rintro e w2 ⟨u,rfl,hu2,hE2⟩;obtain ⟨A2,c2,rfl,hc2⟩:=Un.sh hu2))
   | (go_at_call 35;((with_reducible refine (Vy.out _ _ hu2).mono ?_);rintro e w3 ⟨u,rfl,hz3,bJ⟩;obtain ⟨b3,A3,L3,c3,rfl⟩:=hz3.sh;have kH:=(hI0.ext hE2).ext bJ;obtain ⟨i0,i1,i2,i3,i4⟩:=id kH)))
 clear kH hM Vy
 go_wp2
 (try simp only [Exit.inBlock,Exit.then])
 refine bodyPost_ret (v:=.agg #[.bool b3,.slice A3 L3 c3]) (show (results _ _).run _ _=_ from ?_) rfl ⟨_,rfl,hz3.dA ((hI0.ext hE2).ext bJ) (aP _ _ _) _ _,((hE0.below hE2).below bJ).dA (by omega) _ _⟩
 simp only [results]
 go_simp
end Go.Proofs.YtfhcmggpojhegaaGreatDoor
namespace Go.Proofs.YtfhcmggpojhegaaGreatDoor
open Go.RowKit
set_option linter.all false
set_option maxRecDepth 100000
set_option maxHeartbeats 8000000
theorem NS (w:World) (b:Bool) (A:Option Addr) (L c n:Nat) (hu:Un w (.slice A L c) n) (vm:Value) (m:Nat) (hv:Un w vm m) (hl:(limbs n).length≤1000000) (hl2:(limbs m).length≤1000000) (y:Int) (hy:sg b (n+m)=y) :
  Calls Tryz.prog 93 #[.agg #[.bool b,.slice A L c],vm] w fun e w'=>∃ u,e = .returned u∧Zn w' u y∧Ext w w':=by
 obtain ⟨A1,c1,rfl,-⟩:=Un.sh hv
 obtain ⟨L1,hL1⟩:∃ L,(limbs m).length=L:=⟨_,rfl⟩
 have hA:=Lib.hid (fun W h g=>jA W (.slice A L c) (.slice A1 (limbs m).length c1) n m h g (by omega) (by omega) _ rfl)
 rw [hL1] at hA hv ⊢
 have hE0:=(((Ext.refl w).alloc (.cells #[.bool b,.slice A L c] 131)).alloc (.cells #[.bool false,.slice none 0 0] 48)).drew
 have hI0:=(Ib.new2 w (.cells #[.bool b,.slice A L c] 131) false (.slice none 0 0) 48).ext (Ext.refl _).drew
 have lC:=(Ib.new w b (.slice A L c) 131).ext ((Ext.refl _).alloc (.cells #[.bool false,.slice none 0 0] 48)).drew
 have hu0:=hu.below hE0
 have hv0:=hv.below hE0
 have hM:=Lib.hid (fun W v h=>iq W b v (limbs (n+m)) h (n+m) (aO _) y hy)
 obtain ⟨p0,p1,p2,p3,p4⟩:=id lC
 clear hy hL1
 go_enter Tryz.func93,Tryz.ntmps93
 go_wp2
 go_region_with (first
  | (go_at_call 13;refine (hA.out _ hu0 hv0).mono ?_;rintro e w2 ⟨u,rfl,hu2,hE2⟩;obtain ⟨A2,c2,rfl,hc2⟩:=Un.sh hu2;obtain ⟨p0,p1,p2,p3,p4⟩:=lC.ext hE2)
  | (go_at_call 35;refine (hM.out _ _ hu2).mono ?_;rintro e w3 ⟨u,rfl,hz3,bJ⟩;obtain ⟨b3,A3,L3,c3,rfl⟩:=hz3.sh;have kH:=(hI0.ext hE2).ext bJ;obtain ⟨i0,i1,i2,i3,i4⟩:=id kH))
 all_goals (
  clear kH hA hM
  go_wp2
  (try simp only [Exit.inBlock,Exit.then])
  refine bodyPost_ret (v:=.agg #[.bool b3,.slice A3 L3 c3]) (show (results _ _).run _ _=_ from ?_) rfl ⟨_,rfl,hz3.dA ((hI0.ext hE2).ext bJ) (aP _ _ _) _ _,((hE0.below hE2).below bJ).dA (by simp) _ _⟩
  simp only [results]
  go_simp)
end Go.Proofs.YtfhcmggpojhegaaGreatDoor
namespace Go.Proofs.YtfhcmggpojhegaaGreatDoor
open Go.RowKit
set_option linter.all false
set_option maxRecDepth 100000
set_option maxHeartbeats 8000000
theorem AZ (w:World) (b:Bool) (A:Option Addr) (L c n:Nat) (hu:Un w (.slice A L c) n) (vm:Value) (m:Nat) (hv:Un w vm m) (hl:(limbs n).length≤1000000) (hl2:(limbs m).length≤1000000) (y:Int) (hy:(if m≤n then sg b (n-m) else sg (!b) (m-n))=y) :
  Calls Tryz.prog 94 #[.agg #[.bool b,.slice A L c],vm] w fun e w'=>∃ u,e = .returned u∧Zn w' u y∧Ext w w':=by
 obtain ⟨A1,c1,rfl,-⟩:=Un.sh hv
 obtain ⟨L1,hL1⟩:∃ L,(limbs m).length=L:=⟨_,rfl⟩
 obtain ⟨q,hq⟩:∃ q,decide (m≤n)=q:=⟨_,rfl⟩
 obtain ⟨d,hd⟩:∃ d,n-m=d:=⟨_,rfl⟩
 obtain ⟨d2,hd2⟩:∃ d,m-n=d:=⟨_,rfl⟩
 have hA:=Lib.hid (fun W h g=>vF W (.slice A L c) (.slice A1 (limbs m).length c1) n m h g (by omega) q hq d hd)
 have hA2:=Lib.hid (fun W h g=>vF W (.slice A1 (limbs m).length c1) (.slice A L c) m n h g (by omega) _ rfl d2 hd2)
 rw [hL1] at hA hA2 hv ⊢
 rw [hd,hd2] at hy
 have hE0:=((Ext.refl w).alloc (.cells #[.bool b,.slice A L c] 131)).alloc (.cells #[.bool false,.slice none 0 0] 48)
 have hI0:=Ib.new2 w (.cells #[.bool b,.slice A L c] 131) false (.slice none 0 0) 48
 have lC:=(Ib.new w b (.slice A L c) 131).ext ((Ext.refl _).alloc (.cells #[.bool false,.slice none 0 0] 48))
 have hu0:=hu.below hE0
 have hv0:=hv.below hE0
 obtain ⟨p0,p1,p2,p3,p4⟩:=id lC
 by_cases h0:m≤n
 · rw [if_pos h0] at hy
   rw [decide_eq_true h0] at hq
   subst hq
   have hM:=Lib.hid (fun W v h=>iq W b v (limbs d) h d (aO _) y hy)
   clear hy hL1 hA2 hd hd2 h0
   go_enter Tryz.func94,Tryz.ntmps94
   go_wp2_with (first
    | (go_at_call 127;refine (hA.out _ hu0 hv0).mono ?_;rintro e w2 ⟨u,rfl,hu2,hE2⟩;obtain ⟨A2,c2,rfl,hc2⟩:=Un.sh hu2;obtain ⟨p0,p1,p2,p3,p4⟩:=lC.ext hE2)
    | (go_at_call 35;refine (hM.out _ _ hu2).mono ?_;rintro e w3 ⟨u,rfl,hz3,bJ⟩;obtain ⟨b3,A3,L3,c3,rfl⟩:=hz3.sh;have kH:=(hI0.ext hE2).ext bJ;obtain ⟨i0,i1,i2,i3,i4⟩:=id kH))
   (try simp only [Exit.inBlock,Exit.then])
   refine bodyPost_ret (v:=.agg #[.bool b3,.slice A3 L3 c3]) (show (results _ _).run _ _=_ from ?_) rfl ⟨_,rfl,hz3.dA ((hI0.ext hE2).ext bJ) (aP _ _ _) _ _,((hE0.below hE2).below bJ).dA (by simp) _ _⟩
   simp only [results]
   go_simp
 · rw [if_neg h0] at hy
   rw [decide_eq_false h0] at hq
   subst hq
   have hM:=Lib.hid (fun W v h=>iq W (!b) v (limbs d2) h d2 (aO _) y hy)
   clear hy hL1 hd hd2 h0
   go_enter Tryz.func94,Tryz.ntmps94
   go_upto_region 4 with (go_at_call 127;refine (hA.out _ hu0 hv0).mono ?_;rintro e w2 ⟨u,rfl,hu2,hE2⟩;obtain ⟨A2,c2,rfl,hc2⟩:=Un.sh hu2;obtain ⟨p0,p1,p2,p3,p4⟩:=lC.ext hE2)
   go_wp2_with (first
    | (go_at_call 127;refine (hA2.out _ (Un.below hv0 hE2) (Un.below hu0 hE2)).mono ?_;rintro e w4 ⟨u,rfl,BV,bX⟩;obtain ⟨A4,c4,rfl,hc4⟩:=Un.sh BV;obtain ⟨p0,p1,p2,p3,p4⟩:=(lC.ext hE2).ext bX)
    | (go_at_call 35;refine (hM.out _ _ BV).mono ?_;rintro e w3 ⟨u,rfl,hz3,bJ⟩;obtain ⟨b3,A3,L3,c3,rfl⟩:=hz3.sh;have kH:=((hI0.ext hE2).ext bX).ext bJ;obtain ⟨i0,i1,i2,i3,i4⟩:=id kH))
   (try simp only [Exit.inBlock,Exit.then])
   refine bodyPost_ret (v:=.agg #[.bool b3,.slice A3 L3 c3]) (show (results _ _).run _ _=_ from ?_) rfl ⟨_,rfl,hz3.dA (((hI0.ext hE2).ext bX).ext bJ) (aP _ _ _) _ _,(((hE0.below hE2).below bX).below bJ).dA (by simp) _ _⟩
   simp only [results]
   go_simp
theorem jK (b:Bool) (n m:Nat):sg b (n+m)=sg b n+sg b m:=by cases b<;>simp [sg]<;>omega
theorem je (b:Bool) (n m:Nat):(if m≤n then sg b (n-m) else sg (!b) (m-n))=sg b n+sg (!b) m:=by
 cases b<;>simp only [sg,Bool.not_false,Bool.not_true,if_true,if_false,Bool.false_eq_true]<;>split<;>omega
theorem CB (w:World) (va vb:Value) (a b:Int) (ha:Zn w va a) (hb:Zn w vb b) (hl:(limbs a.natAbs).length≤1000000) (hl2:(limbs b.natAbs).length≤1000000) (y:Int) (hy:a+b=y) :
  Calls Tryz.prog 37 #[va,vb] w fun e w'=>∃ u,e = .returned u∧Zn w' u y∧Ext w w':=by
 have hmf:∀ (fn:Fn) (first cap:Array Value) (w:World),(Instr.makeFunc fn first cap).run Tryz.prog w = .ok (.func fn first cap) w:=fun _ _ _ _=>rfl
 obtain ⟨p,A,L,c,n,rfl,hu,hL,hz,-,hza,hzn⟩:=ha.open
 obtain ⟨q,B,K,d,m,rfl,hv,hK,hz2,-,iF,jV⟩:=hb.open
 rw [hza] at hl
 rw [iF] at hl2
 have hE0:=(((Ext.refl w).alloc (.cells #[.bool p,.slice A L c] 48)).alloc (.cells #[.bool q,.slice B K d] 48)).alloc (.cells #[.bool false,.slice none 0 0] 48)
 have hI0:=Ib.vV w (.cells #[.bool p,.slice A L c] 48) (.cells #[.bool q,.slice B K d] 48) false (.slice none 0 0) 48
 have hu0:=hu.below hE0
 have hv0:=hv.below hE0
 have hG:=Lib.hid (fun W h g (e:sg p (n+m)=y)=>NS W p A L c n h (.slice B K d) m g hl hl2 y e)
 have hS:=Lib.hid (fun W h g (e:(if m≤n then sg p (n-m) else sg (!p) (m-n))=y)=>AZ W p A L c n h (.slice B K d) m g hl hl2 y e)
 rw [hz,hz2] at hy
 have HY:=Lib.hid hy
 clear hl hl2 hza hzn iF jV hz hz2 hL hK ha hb hy
 cases p<;>cases q
 case' false.false=>have HC:=Lib.hid (hG.out _ hu0 hv0 ((jK _ _ _).trans HY.out))
 case' true.true=>have HC:=Lib.hid (hG.out _ hu0 hv0 ((jK _ _ _).trans HY.out))
 case' true.false=>have HC:=Lib.hid (hS.out _ hu0 hv0 ((je _ _ _).trans HY.out))
 case' false.true=>have HC:=Lib.hid (hS.out _ hu0 hv0 ((je _ _ _).trans HY.out))
 all_goals (
  clear hG hS
  go_enter Tryz.func37,Tryz.ntmps37
  go_wp2_with (first
   | (go_at_call 93;refine HC.out.mono ?_;rintro e w3 ⟨u,rfl,hz3,bJ⟩;obtain ⟨b3,A3,L3,c3,rfl⟩:=hz3.sh;have kH:=hI0.ext bJ;obtain ⟨i0,i1,i2,i3,i4⟩:=id kH)
   | (go_at_call 94;refine HC.out.mono ?_;rintro e w3 ⟨u,rfl,hz3,bJ⟩;obtain ⟨b3,A3,L3,c3,rfl⟩:=hz3.sh;have kH:=hI0.ext bJ;obtain ⟨i0,i1,i2,i3,i4⟩:=id kH))
  (try simp only [Exit.inBlock,Exit.then])
  refine bodyPost_ret (v:=.agg #[.bool b3,.slice A3 L3 c3]) (show (results _ _).run _ _=_ from ?_) rfl ⟨_,rfl,hz3.dA (hI0.ext bJ) (aP _ _ _) _ _,(hE0.below bJ).dA (by omega) _ _⟩
  simp only [results]
  go_simp)
end Go.Proofs.YtfhcmggpojhegaaGreatDoor
namespace Go.Proofs.YtfhcmggpojhegaaGreatDoor
open Go.RowKit
set_option linter.all false
set_option maxRecDepth 100000
set_option maxHeartbeats 8000000
theorem uy {A M:Nat}:∀ (pl:List Nat) (n m:Nat) (x y:Int) (rest:List Nat),Cf A M n m x y→quo n m=pl++rest→∃ P Q,rest=quo P Q∧Cf A M P Q (cf pl x y).1 (cf pl x y).2
 | [],n,m,x,y,rest,h,hq=>⟨n,m,hq.symm,h⟩
 | k::pl,n,m,x,y,rest,h,hq=>by
  have hm:m≠0:=by rintro rfl;rw [lN] at hq;cases hq
  rw [nY hm,List.cons_append] at hq
  injection hq with h1 h2
  have:=uy pl m (n%m) y (x-k*y) rest (by rw [← h1];exact (h.step hm).1) h2
  exact this
theorem qi {a b:Nat} {pl rest:List Nat} (h:quo a b=pl++rest):(cs pl 1 0).1≤max b 1∧(cs pl 1 0).2≤max b 1:=by
 obtain ⟨P,Q,_,hc⟩:=uy pl a b 1 0 rest (Cf.first a (Nat.le_max_left b 1) (Nat.le_max_right b 1)) h
 have e:=NQ pl false 1 0
 rw [show alt false 1=1 from rfl,show alt (!false) 0=0 from rfl] at e
 have h1:=hc.left
 have h2:=hc.right
 rw [e] at h1 h2
 rw [Am] at h1 h2
 exact ⟨h1,h2⟩
theorem uA {b:Nat} (h:Sn b 90):Sn (max b 1) 90:=by
 rcases Nat.le_total b 1 with h1 | h1
 · rw [Nat.max_eq_right h1];exact Sn.small (by decide)
 · rw [Nat.max_eq_left h1];exact h
theorem Zm {a b:Nat} {pl rest:List Nat} (h:quo a b=pl++rest) (hb:Sn b 90):Sn (cs pl 1 0).1 90∧Sn (cs pl 1 0).2 90:=⟨(uA hb).down (qi h).1,(uA hb).down (qi h).2⟩
theorem vY (l:List Nat):(cf l 1 0).1=sg (decide (l.length%2=1)) (cs l 1 0).1:=by
 have e:=NQ l false 1 0
 rw [show alt false 1=1 from rfl,show alt (!false) 0=0 from rfl,Bool.false_xor] at e
 rw [e]
 cases decide (l.length%2=1)
 · rw [kM];rfl
 · rw [um];rfl
theorem yS (b:Bool) (A:Option Addr) (n c:Nat):∀ u∈[Value.bool b,.slice A n c],gF u:=by
 intro u hu k e
 subst e
 simp at hu
theorem vZ {fn:Func} {n:Nat} {ds:List Deferred} {l:List (Nat × Value)} {w:World} {t t2:Tmp} {N:Nat} {v:Value} {vs:List Value} {T ty:TypeId} {d:TypeDesc} (hr:fn.results=#[.tmp t,.cell t2 ty]) (hv:Pl.look l t=some v) (hv2:Pl.look l t2=some (.pointer (some ⟨N,0,none⟩)))
  (hC:Cb w N T vs) (hu:Tryz.prog.underlying ty=some d) (hd:d.isRow=true) (hi:(Tryz.prog.info? ty).map (·.size)=some vs.length):∀ a,Pl.Ag n ds a l→(results fn a.tmps).run Tryz.prog w = .ok (.tuple #[v,.agg vs.toArray]) w:=fun a ha=>by
 have hl:=hC.load ty d hu hd hi
 unfold results
 rw [hr]
 have e1:a.tmps.getD t undef=v:=by rw [Array.getD_eq_getD_getElem?,ha.look t _ hv];rfl
 have e2:a.tmps.getD t2 undef = .pointer (some ⟨N,0,none⟩):=by rw [Array.getD_eq_getD_getElem?,ha.look t2 _ hv2];rfl
 simp only [Instr.loadAt,Instr.sureAddr,Sem.run_bind,Sem.run_pure,Result.andThen_ok] at hl
 simp only [List.mapM_toArray,List.mapM_cons,List.mapM_nil,e1,e2,asAddr,Sem.run_bind,Sem.run_pure,Result.andThen_ok]
 simp [hl,Sem.run_bind,Result.andThen]
theorem qj (w:World) (va vb:Value) (a b:Nat) (ha:Un w va a) (hb:Un w vb b) (hla:Sn a 90) (hlb:Sn b 90) :
  Calls Tryz.prog 90 #[va,vb] w fun e w'=>∃ g u,e = .returned (.tuple #[g,u])∧Un w' g (Nat.gcd a b)∧Zn w' u (cf (quo a b) 1 0).1∧Ext w w':=by
 obtain ⟨Aa,ca,rfl,-⟩:=Un.sh ha
 obtain ⟨Ab,cb,rfl,-⟩:=Un.sh hb
 have hmin:decide ((3000:Int)≤(if ((limbs b).length:Int)<((limbs a).length:Int) then ((limbs b).length:Int) else ((limbs a).length:Int)))=false:=by unfold Sn at hla hlb;rw [decide_eq_false_iff_not];split<;>omega
 refine Pl.Ck (n:=39) (vs:=[.slice Aa (limbs a).length ca,.slice Ab (limbs b).length cb]) Tryz.func90 rfl (by kernel_rfl) (by simp) ?_
 repeat refine Pl.ay ?_
 refine Pl.ak (by kernel_rfl) ?_
 refine Pl.aF trivial rfl rfl rfl rfl rfl ?_
 refine fB rfl rfl rfl rfl (z:=.agg #[.bool false,.slice none 0 0]) (by kernel_rfl) (fun _ _=>trivial) ?_
 intro N5 u1 hB1 hN5 Zo
 replace Zo:Cb u1 N5 48 [.bool false,.slice none 0 0]:=Zo
 refine Pl.aj ?_
 repeat refine Pl.ay ?_
 refine Pl.ak (by kernel_rfl) ?_
 refine Pl.aA trivial rfl rfl rfl rfl rfl ?_
 refine eT trivial rfl rfl rfl rfl rfl ?_
 refine Pl.aA trivial rfl rfl rfl rfl rfl ?_
 refine eT trivial rfl rfl rfl rfl rfl ?_
 refine Cz trivial rfl rfl rfl rfl rfl rfl ?_
 refine Pl.aN (v:=.bool false) trivial rfl rfl rfl rfl rfl rfl (fun X=>Jy hmin X) ?_
 refine Pl.aj ?_
 repeat refine Pl.ay ?_
 refine Pl.bn rfl ?_
 repeat refine Pl.ay ?_
 refine Pl.bM ?_
 repeat refine Pl.ay ?_
 refine Pl.ak (by kernel_rfl) ?_
 refine AY (n:=1) (by decide) rfl rfl rfl rfl rfl (fun _ _=>trivial) ?_
 intro A1 u2 hB2 us1
 have h1:=U.one us1
 obtain ⟨A0,c0,e0,-⟩:=Un.sh h1
 refine fB rfl rfl rfl rfl (z:=.slice none 0 0) (by kernel_rfl) (fun _ _=>trivial) ?_
 intro N6 u3 hB3 hN6 Lt
 replace Lt:Cb u3 N6 22 [.slice none 0 0]:=Lt
 refine fB rfl rfl rfl rfl (z:=.slice none 0 0) (by kernel_rfl) (fun _ _=>trivial) ?_
 intro N7 u4 Gb hN7 QN
 replace QN:Cb u4 N7 22 [.slice none 0 0]:=QN
 refine fB rfl rfl rfl rfl (z:=.int .i64 0) (by kernel_rfl) (fun _ _=>trivial) ?_
 intro N8 u5 dJ hN8 VV
 replace VV:Cb u5 N8 3 [.int .i64 0]:=VV
 refine Pl.aW rfl rfl rfl rfl rfl rfl (Cb.dN (Cb.ext Lt (Gb.below dJ)) _ _ _) trivial ?_
 have x6:=Xt.set (Bs:=[N6]) (Cb.ext Lt (Gb.below dJ)) (bP _ _ _) (by simp) 0 (.slice A1 1 1)
 have k66:=Cb.set (Cb.ext Lt (Gb.below dJ)) 0 (.slice A1 1 1)
 generalize u5.setCell ⟨N6,0,none⟩ (.slice A1 1 1)=u6 at *
 have d67:N6<N7:=Nat.lt_of_lt_of_le Lt.lt hN7
 have d78:N7<N8:=Nat.lt_of_lt_of_le QN.lt hN8
 have d56:N5<N6:=Nat.lt_of_lt_of_le (Cb.ext Zo hB2).lt hN6
 refine Pl.aW rfl rfl rfl rfl rfl rfl (Cb.dN (x6.cb (Cb.ext QN dJ) (by simp;omega)) none 0 0) trivial ?_
 have x7:=Xt.set (Bs:=[N7]) (x6.cb (Cb.ext QN dJ) (by simp;omega)) (bP _ _ _) (by simp) 0 (.slice none 0 0)
 have k77:=Cb.set (x6.cb (Cb.ext QN dJ) (by simp;omega)) 0 (.slice none 0 0)
 generalize u6.setCell ⟨N7,0,none⟩ (.slice none 0 0)=u7 at *
 refine Pl.aW rfl rfl rfl rfl rfl rfl (Cb.sG (x7.cb (x6.cb VV (by simp;omega)) (by simp;omega)) 0) trivial ?_
 have x8:=Xt.set (Bs:=[N8]) (x7.cb (x6.cb VV (by simp;omega)) (by simp;omega)) (mO _) (by simp) 0 (.int .i64 0)
 have k88:=Cb.set (x7.cb (x6.cb VV (by simp;omega)) (by simp;omega)) 0 (.int .i64 0)
 generalize u7.setCell ⟨N8,0,none⟩ (.int .i64 0)=u8 at *
 refine Pl.aj ?_
 have x58:Xt [N6,N7,N8] u5 u8:=(x6.mono (by simp)).trans ((x7.mono (by simp)).trans (x8.mono (by simp)))
 have Zp:=hB2.below (hB3.below (Gb.below dJ))
 have k58:=x58.cb (Cb.ext Zo Zp) (by simp;omega)
 have k68:=x8.cb (x7.cb k66 (by simp;omega)) (by simp;omega)
 have k78:=x8.cb k77 (by simp;omega)
 have h18:=Un.kp (Un.below h1 (hB3.below (Gb.below dJ))) x58.kp
 have hw5:w.heap.size≤N5:=hN5
 have dL:=(hB1.below Zp).xt x58 (by simp;omega)
 clear x6 x7 x8 k66 k77 Lt QN VV Zo
 repeat refine Pl.ay ?_
 refine Pl.ak (by kernel_rfl) ?_
 refine Pl.aA trivial rfl rfl rfl rfl rfl ?_
 refine fB rfl rfl rfl rfl (z:=.slice none 0 0) (by kernel_rfl) (fun _ _=>trivial) ?_
 intro N9 u9 gW hN9 Zq
 replace Zq:Cb u9 N9 22 [.slice none 0 0]:=Zq
 refine Pl.aW rfl rfl rfl rfl rfl rfl (Cb.dN Zq Aa (limbs a).length ca) trivial ?_
 have vD:=Xt.set (Bs:=[N9]) Zq (bP _ _ _) (by simp) 0 (.slice Aa (limbs a).length ca)
 have Zr:=Cb.set Zq 0 (.slice Aa (limbs a).length ca)
 have d89:N8<N9:=Nat.lt_of_lt_of_le k88.lt hN9
 have ahV:=vD.cb (Cb.ext k58 gW) (by simp;omega)
 have ahW:=vD.cb (Cb.ext k68 gW) (by simp;omega)
 have ahX:=vD.cb (Cb.ext k78 gW) (by simp;omega)
 have ahY:=vD.cb (Cb.ext k88 gW) (by simp;omega)
 have cZ:=(dL.below gW).xt vD (by simp;omega)
 have ahZ:=Un.kp (Un.below h18 gW) vD.kp
 generalize u9.setCell ⟨N9,0,none⟩ (.slice Aa (limbs a).length ca)=w3 at *
 refine Pl.aj ?_
 repeat refine Pl.ay ?_
 refine Pl.ak (by kernel_rfl) ?_
 refine Pl.nZ trivial rfl rfl rfl rfl rfl rfl ?_
 refine Pl.aF trivial rfl rfl rfl rfl rfl ?_
 refine Pl.aj ?_
 repeat refine Pl.ay ?_
 refine Pl.ak (by kernel_rfl) ?_
 refine Pl.aA trivial rfl rfl rfl rfl rfl ?_
 refine Pl.aA trivial rfl rfl rfl rfl rfl ?_
 refine Pl.aA trivial rfl rfl rfl rfl rfl ?_
 refine Pl.az rfl rfl rfl rfl rfl (fun u X=>Pl.enters Tryz.func58 (by kernel_rfl) rfl u X) ?_
 refine Calls.mono (uh _ _ _ _ _ rfl rfl rfl rfl) ?_
 rintro e w4 ⟨Na,Nb,Ne,Ng,rfl,kna,knb,kne,XD,o1,o2,o3,o4,hB4⟩
 refine ⟨_,rfl,trivial,?_⟩
 refine Pl.aj ?_
 repeat refine Pl.ay ?_
 refine Pl.dM ?_
 repeat refine Pl.ay ?_
 refine Pl.KO (gf := 118) (lb:=[.pointer (some ⟨Nb,0,none⟩),.pointer (some ⟨Na,0,none⟩),.pointer (some ⟨Ne,0,none⟩),.pointer (some ⟨Ng,0,none⟩)]) rfl (fun u X=>Pl.enters Tryz.func118 (by kernel_rfl) rfl u X) ?_
 intro fn tmps rec hrec hAg
 obtain ⟨D,hD⟩:∃ D,w4.heap.size=D:=⟨_,rfl⟩
 rw [hD]
 have bX:=cZ.below hB4
 have Tp:w.heap.size≤D:=by rw [← hD];exact bX.size
 have lZ:Ext w4 ((w4.alloc (.deferred (some []))).alloc (.loop rec)):=((Ext.refl w4).alloc _).alloc _
 have hL5:Lq w D rec ((w4.alloc (.deferred (some []))).alloc (.loop rec)):=⟨by rw [← hD];have:=World.alloc_heap_new (w4.alloc (.deferred (some []))) (.loop rec);rwa [World.size_alloc] at this,by rw [← hD];exact (Below.heap_alloc _ _ _ (by simp)).trans (World.alloc_heap_new w4 _),bX.below lZ⟩
 have hs5:((w4.alloc (.deferred (some []))).alloc (.loop rec)).heap.size=D+2:=by rw [World.size_alloc,World.size_alloc,hD]
 generalize (w4.alloc (.deferred (some []))).alloc (.loop rec)=w5 at *
 have hlt3:=Zr.lt
 have hng:=XD.lt
 rw [hD] at hng
 have h34:=hB4.size
 rw [hD] at h34
 refine Calls.mono (ug w5 a b _ _ Na Nb Ne Ng 147 [] 146 [.pointer (some ⟨N6,0,none⟩),.pointer (some ⟨N7,0,none⟩),.pointer (some ⟨N8,0,none⟩)] (D+1) [N6,N7,N8,N9,D+1] (fun ql pl pr X=>(∃ v1 v2 vg,Cb X N6 22 [v1]∧Cb X N7 22 [v2]∧Cb X N8 3 [.int .i64 ((pl.length:Nat):Int)]∧Cb X N9 22 [vg]∧Un X v1 (cs pl 1 0).1∧Un X v2 (cs pl 1 0).2∧Un X vg pr.1)∧Cb X N5 48 [.bool false,.slice none 0 0]∧Lq w D rec X) (fun _=>False) (Cb.ext kna lZ) (Cb.ext knb lZ) (Cb.ext kne lZ) (Cb.ext XD lZ) ⟨o2,o3,o4⟩ ?Ci (Un.below ha hL5.ext) (Un.below hb hL5.ext) hla hlb ?h0 ?hI (fun u X=>Pl.enters Tryz.func147 (by kernel_rfl) rfl u X) (fun u X=>Pl.enters Tryz.func146 (by kernel_rfl) rfl u X) ?yf ?rM ?vC) ?_
 case Ci=>intro k hk;simp at hk;rcases hk with rfl | rfl | rfl | rfl | rfl<;>omega
 case h0=>exact ⟨⟨_,_,_,Cb.ext (Cb.ext ahW hB4) lZ,Cb.ext (Cb.ext ahX hB4) lZ,Cb.ext (Cb.ext ahY hB4) lZ,Cb.ext (Cb.ext Zr hB4) lZ,Un.below (Un.below ahZ hB4) lZ,Un.nil _ _ _,Un.below ha hL5.ext⟩,Cb.ext (Cb.ext ahV hB4) lZ,hL5⟩
 case hI =>
  rintro ql pl pr X Y Cs ⟨⟨v1,v2,vg,k6,k7,k8,k9,h1,h2,hg⟩,k5,hL⟩ hX hC
  have nb:∀ N,N<D+2→N≠Na→N≠Nb→N∉Cs:=fun N hN h1 h2 hc=>by rcases hC N hc with h | h | h<;>omega
  exact ⟨⟨v1,v2,vg,hX.cb k6 (nb _ (by omega) (by omega) (by omega)),hX.cb k7 (nb _ (by omega) (by omega) (by omega)),hX.cb k8 (nb _ (by omega) (by omega) (by omega)),hX.cb k9 (nb _ (by omega) (by omega) (by omega)),Un.kp h1 hX.kp,Un.kp h2 hX.kp,Un.kp hg hX.kp⟩,hX.cb k5 (nb _ (by omega) (by omega) (by omega)),hL.xt hX fun k hk=>by rcases hC k hk with h | h | h<;>omega⟩
 case yf =>
  intro ql pl pr q v X hJ hpre hq hv
  refine (yR X v).mono fun e X' h=>?_
  obtain ⟨rfl,rfl⟩:=h
  exact ⟨rfl,hJ,Xc.refl _⟩
 case rM =>
  rintro pl l pr f fs n X ⟨⟨v1,v2,vg,k6,k7,k8,k9,h1,h2,hg⟩,k5,hL⟩ ⟨rest,hpre⟩ ht rfl
  have hsh:=pM (a:=a) (hlb.le (show 90≤1000 by decide))
  have Jz:quo a b=pl++(l++rest):=by rw [hpre,List.append_assoc]
  have hsn:=Zm Jz hlb
  have hln:pl.length+l.length≤64000:=by rw [hpre] at hsh;simp at hsh;omega
  refine (vX X f fs v1 v2 (cs pl 1 0).1 (cs pl 1 0).2 (cs (pl++l) 1 0).1 (cs (pl++l) 1 0).2 N6 N7 N8 _ _ _ _ _ h1 h2 k6 k7 k8 (by omega) (by omega) (by omega) (by omega) (ht X (Ext.refl _)).1 ?_).mono fun e X' h=>?_
  · rw [Ct];exact (ht X (Ext.refl _)).2 v1 v2 _ _ h1 h2 (hsn.1.le (by decide)) (hsn.2.le (by decide))
  · obtain ⟨rfl,x1,x2,g1,g2,m6,m7,m8,hx⟩:=h
    refine ⟨rfl,⟨⟨x1,x2,vg,m6,m7,by rw [List.length_append,Int.natCast_add];exact m8,hx.cb k9 (by simp;omega),g1,g2,Un.kp hg hx.kp⟩,hx.cb k5 (by simp;omega),hL.xt hx (by simp;omega)⟩,Xc.xt (hx.mono (by simp))⟩
 case vC =>
  rintro ql pr P Q vp vq X ⟨⟨v1,v2,vg,k6,k7,k8,k9,h1,h2,hg⟩,k5,hL⟩ htold XH hsp hsq hp hq
  obtain ⟨Ap,cp,rfl,-⟩:=Un.sh hp
  obtain ⟨Aq,cq,rfl,-⟩:=Un.sh hq
  obtain ⟨Ag,cg,rfl,-⟩:=Un.sh hg
  refine YW.of hrec hL.loop ?_
  refine Pl.Fy (Pl.Ag.round hAg (by decide) _) ?_
  repeat refine Pl.jh ?_
  refine Pl.iW (by kernel_rfl) ?_
  refine fB rfl rfl rfl rfl (z:=.agg #[.slice none 0 0,.slice none 0 0]) (by kernel_rfl) (fun _ _=>trivial) ?_
  intro Np X1 hX1 hNp M6
  replace M6:Cb X1 Np 91 [.slice none 0 0,.slice none 0 0]:=M6
  refine iC (new:=[.slice Ap (limbs P).length cp,.slice Aq (limbs Q).length cq]) M6 rfl rfl rfl rfl rfl rfl (by kernel_rfl) rfl (by simp [Value.oneCell']) trivial ?_
  have kp2:=Cb.put M6 [.slice Ap (limbs P).length cp,.slice Aq (limbs Q).length cq]
  have x2:Xt [Np] X (X1.setRow Np ([.slice Ap (limbs P).length cp,.slice Aq (limbs Q).length cq]:List Value).toArray):=(Xt.ext hX1).trans (Xt.put M6 (ni _ _ _ _ _ _) (by simp) _)
  generalize X1.setRow Np ([.slice Ap (limbs P).length cp,.slice Aq (limbs Q).length cq]:List Value).toArray=X2 at *
  refine Pl.aj ?_
  have hDX:=(Array.getElem?_eq_some_iff.1 hL.loop).1
  have hsz:D+2≤X.heap.size:=hDX
  have hwX:=hL.ext.size
  have hL2:=hL.xt x2 (by simp;omega)
  obtain ⟨hL3,x3⟩:=hL2.put Tp { rec with state:=.busy }
  have kp3:=x3.cb kp2 (by simp;omega)
  have x23:Xt [Np,D+1] X (X2.putObj (D+1) (.loop { rec with state:=.busy })):=(x2.mono (by simp)).trans (x3.mono (by simp))
  have k93:=x23.cb k9 (by simp;omega)
  refine Pl.yI fun a2 ha2=>⟨_,_,ha2,run_beginRound hL2.loop (by rw [hrec]),?_⟩
  generalize X2.putObj (D+1) (.loop { rec with state:=.busy })=X3 at *
  repeat refine Pl.jh ?_
  refine Pl.Fz ?_
  repeat refine Pl.jh ?_
  refine Pl.iW (by kernel_rfl) ?_
  refine bL trivial rfl rfl rfl rfl rfl (zV _) ?_
  refine Pl.aH trivial rfl rfl rfl rfl rfl (Cb.jZ (j:=0) kp3 rfl) ?_
  refine Pl.aW rfl rfl rfl rfl rfl rfl (Cb.dN k93 Ap (limbs P).length cp) trivial ?_
  have x4:=Xt.set (Bs:=[N9]) k93 (bP _ _ _) (by simp) 0 (.slice Ap (limbs P).length cp)
  have k94:=Cb.set k93 0 (.slice Ap (limbs P).length cp)
  have hL4:=hL3.xt x4 (by simp;omega)
  generalize X3.setCell ⟨N9,0,none⟩ (.slice Ap (limbs P).length cp)=X4 at *
  refine Pl.aj ?_
  refine Pl.qV ?_
  refine Pl.yI fun a3 ha3=>?_
  obtain ⟨v5,X5,hr5,rfl,hL5,x5⟩:=Lq.fin (P:=Tryz.prog) hL4 Tp (by rw [hrec]) (by rw [hrec])
  refine ⟨_,_,hr5,.inl ⟨rfl,?_⟩⟩
  have x25:Xt [Np,D+1,N9] X X5:=(x23.mono (by simp)).trans ((x4.mono (by simp)).trans (x5.mono (by simp)))
  have dn:Np≠N5∧Np≠N6∧Np≠N7∧Np≠N8:=by omega
  exact ⟨⟨⟨v1,v2,_,x25.cb k6 (by simp;omega),x25.cb k7 (by simp;omega),x25.cb k8 (by simp;omega),x5.cb k94 (by simp;omega),Un.kp h1 x25.kp,Un.kp h2 x25.kp,Un.kp hp x25.kp⟩,x25.cb k5 (by simp;omega),hL5⟩,(Xc.xt x25).drop (by simp;omega)⟩
 rintro e w6 ⟨rfl,(⟨P,⟨⟨v1,v2,vg,k6,k7,k8,k9,h1,h2,hg⟩,k5,hL⟩,hPg⟩ | hf)⟩
 rotate_left
 · exact hf.elim
 refine ⟨_,rec,rfl,hL.loop,by rw [hrec];simp,?_⟩
 rw [hrec]
 dsimp only
 obtain ⟨hL7,x7⟩:=hL.put Tp { rec with state:=.exhausted }
 rw [hrec] at hL7 x7
 generalize w6.putObj (D+1) _=w7 at *
 have k57:=x7.cb k5 (by simp;omega)
 have k67:=x7.cb k6 (by simp;omega)
 have k87:=x7.cb k8 (by simp;omega)
 have k97:=x7.cb k9 (by simp;omega)
 have h17:=Un.kp h1 x7.kp
 have hg7:=Un.kp hg x7.kp
 obtain ⟨Af,cf1,rfl,-⟩:=Un.sh h1
 obtain ⟨Ag,cg,rfl,-⟩:=Un.sh hg
 refine Pl.dG ?_
 have hsh:=pM (a:=a) (hlb.le (show 90≤1000 by decide))
 obtain ⟨sb,hsb⟩:∃ sb,decide ((quo a b).length%2=1)=sb:=⟨_,rfl⟩
 obtain ⟨q1,hq1⟩:∃ q,(cs (quo a b) 1 0).1=q:=⟨_,rfl⟩
 repeat refine Pl.ay ?_
 refine Pl.iJ (S:=fun X=>Cb X N9 22 [.slice Ag (limbs P).length cg]∧Cb X N8 3 [.int .i64 (((quo a b).length:Nat):Int)]∧Cb X N6 22 [.slice Af (limbs (cs (quo a b) 1 0).1).length cf1]) [(true,0,0),(true,1,1),(true,2,3),(true,3,7),(true,4,15),(false,5,31),(true,6,63),(false,7,127)] fo Pl.vT (by kernel_rfl) ⟨Cb.ext k97 (Ext.drew (Ext.refl w7)),Cb.ext k87 (Ext.drew (Ext.refl w7)),Cb.ext k67 (Ext.drew (Ext.refl w7))⟩ ?_
 have dU:=Ext.drew (Ext.refl w7)
 generalize w7.drew=w8 at *
 intro jk
 refine Pl.aX jk rfl rfl rfl rfl rfl (fun X hX=>Cb.limbs hX.1) ?_
 refine Pl.aX jk rfl rfl rfl rfl rfl (fun X hX=>Cb.int hX.2.1) ?_
 refine Pl.aN (v:=.int .i64 (((quo a b).length%2:Nat):Int)) jk rfl rfl rfl rfl rfl rfl (fun X=>Zl (b:=2) rfl rfl (by decide) (by omega) (by decide) X) ?_
 refine Pl.aN (v:=.bool sb) jk rfl rfl rfl rfl rfl rfl (fun X=>JU (by rw [← hsb,Bool.eq_iff_iff];simp;omega) X) ?_
 refine Pl.aX jk rfl rfl rfl rfl rfl (fun X hX=>Cb.limbs hX.2.2) ?_
 refine Pl.az rfl rfl rfl rfl rfl (fun u X=>Pl.enters Tryz.func35 (by kernel_rfl) rfl u X) ?_
 refine Calls.mono (iq _ sb _ (limbs (cs (quo a b) 1 0).1) (Un.below h17 dU) _ (aO _) _ rfl) ?_
 rintro e w9 ⟨z,rfl,hz,gW⟩
 have nK:=jk |> fun h=>(⟨Cb.ext h.1 gW,Cb.ext h.2.1 gW,Cb.ext h.2.2 gW⟩:Cb w9 N9 22 [.slice Ag (limbs P).length cg]∧Cb w9 N8 3 [.int .i64 (((quo a b).length:Nat):Int)]∧Cb w9 N6 22 [.slice Af (limbs (cs (quo a b) 1 0).1).length cf1])
 obtain ⟨pz,Az,nz,cz,rfl⟩:=Zn.sh hz
 have QO:=dU.below gW
 have VW:=Cb.ext k57 QO
 refine ⟨_,rfl,nK,?_⟩
 refine Pl.aF nK rfl rfl rfl rfl rfl ?_
 have vD:Xt [N5] w9 (w9.setRow N5 ([.bool pz,.slice Az nz cz]:List Value).toArray):=Xt.put VW (yS _ _ _ _) (by simp) _
 refine iC (new:=[.bool pz,.slice Az nz cz]) VW rfl rfl rfl rfl rfl rfl (by kernel_rfl) rfl (by simp [Value.oneCell']) ⟨vD.cb nK.1 (by simp;omega),vD.cb nK.2.1 (by simp;omega),vD.cb nK.2.2 (by simp;omega)⟩ ?_
 have Zt:=Cb.put VW [.bool pz,.slice Az nz cz]
 generalize w9.setRow N5 ([.bool pz,.slice Az nz cz]:List Value).toArray=uY at *
 refine Pl.aj ?_
 have KP:=(hL7.xt (Xt.ext (Bs:=[]) QO) (by simp)).xt vD (by simp;omega)
 have Ua:=Xt.putObj KP.dfr rfl (.deferred none)
 have ah1:=(Kp.ext QO).trans (vD.kp.trans Ua.kp)
 refine Pl.vE KP.dfr (vZ rfl rfl rfl (Ua.cb Zt (by simp;omega)) rfl rfl (by kernel_rfl)) ⟨_,_,rfl,by rw [← hPg];exact Un.kp hg7 ah1,?_,KP.ext.xt Ua (by simp;omega)⟩
 rw [vY,hsb]
 exact Zn.kp (Zn.kp hz vD.kp) Ua.kp
end Go.Proofs.YtfhcmggpojhegaaGreatDoor
namespace Go.Proofs.YtfhcmggpojhegaaGreatDoor
open Go.RowKit
set_option linter.all false
set_option maxRecDepth 100000
set_option maxHeartbeats 8000000
theorem EP (a b:Int):a%b=0↔a.natAbs%b.natAbs=0:=by
 rw [← Int.dvd_iff_emod_eq_zero,← Nat.dvd_iff_mod_eq_zero,Int.natAbs_dvd_natAbs]
theorem jl (w:World) (va vb:Value) (a b:Int) (ha:Zn w va a) (hb:Zn w vb b) (hl:(limbs a.natAbs).length≤1000) (hl2:(limbs b.natAbs).length≤1000) (h0:b≠0) (hr:a%b=0) (x:Int) (hx:a/b=x) :
  Calls Tryz.prog 34 #[va,vb] w fun e w'=>∃ u,e = .returned (.tuple #[u,.bool true])∧Zn w' u x∧Ext w w':=by
 have hab:=EP a b
 obtain ⟨p,A,L,c,n,rfl,hu,hL,hz,-,hza,hzn⟩:=ha.open
 obtain ⟨q,B,K,d,m,rfl,hv,hK,hz2,-,iF,jV⟩:=hb.open
 rw [hza,iF] at hab
 rw [hza] at hl
 rw [iF] at hl2
 have hR:n%m=0:=hab.1 hr
 have hm0:m≠0:=by omega
 have k1:=(sW p q n m hm0 (.inr hR)).1
 rw [← hz,← hz2,hx] at k1
 have hE0:=(((Ext.refl w).alloc (.cells #[.bool p,.slice A L c] 48)).alloc (.cells #[.bool q,.slice B K d] 48)).alloc (.cells #[.bool false,.slice none 0 0] 48)
 have hI0:=Ib.vV w (.cells #[.bool p,.slice A L c] 48) (.cells #[.bool q,.slice B K d] 48) false (.slice none 0 0) 48
 have lC:=(Ib.new w p (.slice A L c) 48).ext (((Ext.refl _).alloc (.cells #[.bool q,.slice B K d] 48)).alloc (.cells #[.bool false,.slice none 0 0] 48))
 have nL:=(Ib.new2 w (.cells #[.bool p,.slice A L c] 48) q (.slice B K d) 48).ext ((Ext.refl _).alloc (.cells #[.bool false,.slice none 0 0] 48))
 obtain ⟨Q,hQ⟩:∃ Q,n/m=Q:=⟨_,rfl⟩
 have hD:=Lib.hid (iI _ (.slice A L c) (.slice B K d) n m Q 0 (hu.below hE0) (hv.below hE0) hl hl2 hm0 hQ hR)
 rw [hQ] at k1
 have hM1:=Lib.hid (fun W v (h:Un W v Q)=>iq W (!(p==q)) v (limbs Q) h Q (aO _) x k1)
 have HL0:Hid ((limbs 0).length=0):=by show _=_;rw [bf];rfl
 clear hl hl2 hza hzn iF jV hz hz2 hL hK ha hb hu hv h0 hab hR hr hm0 hQ k1 hx
 unfold Dv at hD
 go_enter Tryz.func34,Tryz.ntmps34
 go_wp2_with (first
  | (go_at_call 18;refine hD.out.mono ?_;rintro e w2 ⟨⟨vq,vr,rfl,yL,rX⟩,hE2⟩;obtain ⟨A2,c2,rfl,-⟩:=Un.sh yL;obtain ⟨A3,c3,rfl,-⟩:=Un.sh rX;rw [HL0.out] at rX ⊢;obtain ⟨p0,p1,p2,p3,p4⟩:=lC.ext hE2;obtain ⟨q0,q1,q2,q3,q4⟩:=nL.ext hE2)
  | (go_at_call 35;refine (hM1.out _ _ yL).mono ?_;rintro e w3 ⟨u,rfl,hz3,bJ⟩;obtain ⟨b3,A4,L3,c4,rfl⟩:=hz3.sh;have kH:=(hI0.ext hE2).ext bJ;obtain ⟨i0,i1,i2,i3,i4⟩:=id kH))
 (try simp only [Exit.inBlock,Exit.then])
 refine bodyPost_ret (v:=.tuple #[.agg #[.bool b3,.slice A4 L3 c4],.bool true]) (show (results _ _).run _ _=_ from ?_) rfl ⟨_,rfl,hz3.dA kH (aP _ _ _) _ _,((hE0.below hE2).below bJ).dA (by omega) _ _⟩
 simp only [results]
 go_simp
end Go.Proofs.YtfhcmggpojhegaaGreatDoor
namespace Go.Proofs.YtfhcmggpojhegaaGreatDoor
open Go.RowKit
set_option linter.all false
set_option maxRecDepth 100000
set_option maxHeartbeats 8000000
theorem Gc (w:World) (va vb:Value) (a b:Int) (ha:Zn w va a) (hb:Zn w vb b) (hl:(limbs a.natAbs).length≤1000000) (hl2:(limbs b.natAbs).length≤1000000) (y:Int) (hy:a-b=y) :
  Calls Tryz.prog 91 #[va,vb] w fun e w'=>∃ u,e = .returned u∧Zn w' u y∧Ext w w':=by
 have hN:=Lib.hid (fun W h=>ahN W vb b h (-b) rfl)
 have hA:=Lib.hid (fun W u h (g:Zn W u (-b))=>CB W va u a (-b) h g hl (by rw [Int.natAbs_neg];exact hl2) y (by rw [← Int.sub_eq_add_neg];exact hy))
 have ha':=ha
 have hb':=hb
 obtain ⟨p,A,L,c,n,rfl,hu,hL,hz,-,hza,hzn⟩:=ha.open
 obtain ⟨q,B,K,d,m,rfl,hv,hK,hz2,-,iF,jV⟩:=hb.open
 have hE0:=((((Ext.refl w).alloc (.cells #[.bool p,.slice A L c] 48)).alloc (.cells #[.bool q,.slice B K d] 48)).alloc (.cells #[.bool false,.slice none 0 0] 48)).drew
 have hI0:=(Ib.vV w (.cells #[.bool p,.slice A L c] 48) (.cells #[.bool q,.slice B K d] 48) false (.slice none 0 0) 48).ext (Ext.refl _).drew
 have lC:=(Ib.new w p (.slice A L c) 48).ext ((((Ext.refl _).alloc (.cells #[.bool q,.slice B K d] 48)).alloc (.cells #[.bool false,.slice none 0 0] 48)).drew)
 have nL:=(Ib.new2 w (.cells #[.bool p,.slice A L c] 48) q (.slice B K d) 48).ext (((Ext.refl _).alloc (.cells #[.bool false,.slice none 0 0] 48)).drew)
 have hS0:(w.heap.size+1+1<(((w.alloc (.cells #[.bool p,.slice A L c] 48)).alloc (.cells #[.bool q,.slice B K d] 48)).alloc (.cells #[.bool false,.slice none 0 0] 48)).drew.heap.size∧(((w.alloc (.cells #[.bool p,.slice A L c] 48)).alloc (.cells #[.bool q,.slice B K d] 48)).alloc (.cells #[.bool false,.slice none 0 0] 48)).drew.cell? ⟨w.heap.size,0,none⟩=some (.bool p)∧(((w.alloc (.cells #[.bool p,.slice A L c] 48)).alloc (.cells #[.bool q,.slice B K d] 48)).alloc (.cells #[.bool false,.slice none 0 0] 48)).drew.cell? ⟨w.heap.size,1,none⟩=some (.slice A L c)∧(((w.alloc (.cells #[.bool p,.slice A L c] 48)).alloc (.cells #[.bool q,.slice B K d] 48)).alloc (.cells #[.bool false,.slice none 0 0] 48)).drew.cell? ⟨w.heap.size+1,0,none⟩=some (.bool q)∧(((w.alloc (.cells #[.bool p,.slice A L c] 48)).alloc (.cells #[.bool q,.slice B K d] 48)).alloc (.cells #[.bool false,.slice none 0 0] 48)).drew.cell? ⟨w.heap.size+1,1,none⟩=some (.slice B K d))∧Ext w (((w.alloc (.cells #[.bool p,.slice A L c] 48)).alloc (.cells #[.bool q,.slice B K d] 48)).alloc (.cells #[.bool false,.slice none 0 0] 48)).drew:=⟨⟨by simp,lC.2.1,lC.2.2.1,nL.2.1,nL.2.2.1⟩,hE0⟩
 have ha0:=ha'.below hE0
 have hb0:=hb'.below hE0
 clear hl hl2 hza hzn iF jV hz hz2 hL hK ha hb hy lC nL ha' hb'
 go_enter Tryz.func91,Tryz.ntmps91
 go_wp2
 go_region_held3 (fun X=>(w.heap.size+1+1<X.heap.size∧X.cell? ⟨w.heap.size,0,none⟩=some (.bool p)∧X.cell? ⟨w.heap.size,1,none⟩=some (.slice A L c)∧X.cell? ⟨w.heap.size+1,0,none⟩=some (.bool q)∧X.cell? ⟨w.heap.size+1,1,none⟩=some (.slice B K d))∧Ext w X)
  (first
   | exact hS0
   | exact yO (by assumption) (by assumption)
   | exact yP (by assumption))
  (first
   | (go_at_call 148;((with_reducible refine (hN.out _ hb0).mono ?_);rintro e w2 ⟨u,rfl,hz2,hE2⟩;obtain ⟨b2,A2,L2,c2,rfl⟩:=hz2.sh))
   | (go_at_call 37;((with_reducible refine (hA.out _ _ (ha0.below hE2) hz2).mono ?_);rintro e w3 ⟨u,rfl,hz3,bJ⟩;obtain ⟨b3,A3,L3,c3,rfl⟩:=hz3.sh;have kH:=(hI0.ext hE2).ext bJ;obtain ⟨i0,i1,i2,i3,i4⟩:=id kH)))
 clear hN hA
 clear kH
 go_wp2
 (try simp only [Exit.inBlock,Exit.then])
 refine bodyPost_ret (v:=.agg #[.bool b3,.slice A3 L3 c3]) (show (results _ _).run _ _=_ from ?_) rfl ⟨_,rfl,hz3.dA ((hI0.ext hE2).ext bJ) (aP _ _ _) _ _,((hE0.below hE2).below bJ).dA (by omega) _ _⟩
 simp only [results]
 go_simp
end Go.Proofs.YtfhcmggpojhegaaGreatDoor
namespace Go.Proofs.YtfhcmggpojhegaaGreatDoor
open Go.RowKit
set_option linter.all false
set_option maxRecDepth 100000
set_option maxHeartbeats 8000000
namespace EGE
set_option linter.all false
set_option maxRecDepth 100000
set_option maxHeartbeats 8000000
theorem ah2 (u:Array Value) (X:World):(callFunc 90 u).run Tryz.prog X = .ok (.enter 90 u) X:=Pl.enters Tryz.func90 (by kernel_rfl) rfl u X
theorem Gf (u:Array Value) (X:World):(callFunc 91 u).run Tryz.prog X = .ok (.enter 91 u) X:=Pl.enters Tryz.func91 (by kernel_rfl) rfl u X
theorem jm (u:Array Value) (X:World):(callFunc 35 u).run Tryz.prog X = .ok (.enter 35 u) X:=Pl.enters Tryz.func35 (by kernel_rfl) rfl u X
theorem Lu (u:Array Value) (X:World):(callFunc 38 u).run Tryz.prog X = .ok (.enter 38 u) X:=Pl.enters Tryz.func38 (by kernel_rfl) rfl u X
theorem QR (u:Array Value) (X:World):(callFunc 34 u).run Tryz.prog X = .ok (.enter 34 u) X:=Pl.enters Tryz.func34 (by kernel_rfl) rfl u X
end EGE
open EGE
theorem eH (w:World) (v:Value) (n:Nat) (h:Un w v n):Calls Tryz.prog 35 #[.bool false,v] w fun e w'=>∃ u,e = .returned u∧Zn w' u (n:Int)∧Ext w w' :=
 iq w false v (limbs n) h n (aO _) (n:Int) (kM n)
theorem T2.un {w w':World} (T2:∀ v z,Zn w v z→Zn w' v z) {v:Value} {n:Nat} (h:Un w v n):Un w' v n:=by
 obtain ⟨A,c,rfl,-⟩:=Un.sh h
 have hz:Zn w (.agg #[.bool false,.slice A (limbs n).length c]) (n:Int):=⟨A,c,by simp,by simpa using h⟩
 have:=Zn.mag (T2 _ _ hz)
 simpa using this
section
variable {L:List Oper} {S:World→Prop} {K:List (Nat × Value)→World→Prop} {i m:Nat} {o:Oper} {x y:Operand} {r:List (Bool × Nat × Nat)} {l:List (Nat × Value)} {w:World} {N n0 c0 n c:Nat} {b0 b:Bool} {A0 A:Option Addr}
theorem Gg (ho:Pl.nth L i=some o) (hp:o.op = .store 48 x y) (hd:o.dst=none) (hg:o.guard=none) (hx:Pl.dF l x=some (.pointer (some ⟨N,0,none⟩))) (hy:Pl.dF l y=some (.agg #[.bool b,.slice A n c]))
  (hI:Ib w N b0 (.slice A0 n0 c0)) (hS:∀ Y,(∀ M b m,M≠N→Ib w M b m→Ib Y M b m)→S Y)
  (h:∀ w',(∀ w0,Ext w0 w→w0.heap.size≤N→Ext w0 w')→(∀ v z,Zn w v z→Zn w' v z)→(∀ M b m,M≠N→Ib w M b m→Ib w' M b m)→Ib w' N b (.slice A n c)→Pl.dO Tryz.prog L S K r l w'):Pl.dO Tryz.prog L S K ((false,i,m)::r) l w:=by
 obtain ⟨r1,I1⟩:=mE hI b A n c
 have T1:∀ w0,Ext w0 w→w0.heap.size≤N→Ext w0 ((w.setCell ⟨N,0,none⟩ (.bool b)).setCell ⟨N,1,none⟩ (.slice A n c)):=fun w0 h hN=>h.dA hN _ _
 have T3:∀ M b' m',M≠N→Ib w M b' m'→Ib ((w.setCell ⟨N,0,none⟩ (.bool b)).setCell ⟨N,1,none⟩ (.slice A n c)) M b' m':=fun M b m hne hM=>hM.other hne _ _
 exact Pl.aW ho hp hd (by rw [hg];rfl) hx hy r1 (hS _ T3) (h _ T1 (fun v z hz=>hz.dA hI (aP _ _ _) _ _) T3 I1)
end
theorem Gi (a b:Int):∀ (l:List Nat) (x y s t:Int),(cf l x y).1*a+(cf l s t).1*b=(cf l (x*a+s*b) (y*a+t*b)).1∧(cf l x y).2*a+(cf l s t).2*b=(cf l (x*a+s*b) (y*a+t*b)).2
 | [],x,y,s,t=>⟨rfl,rfl⟩
 | k::l,x,y,s,t=>by
  have h:=Gi a b l y (x-k*y) t (s-k*t)
  have e:(x-k*y)*a+(s-k*t)*b=(x*a+s*b)-k*(y*a+t*b):=by grind
  rw [e] at h
  exact h
theorem Lv (a b:Nat):(cf (quo a b) (a:Int) (b:Int)).1=(Nat.gcd a b:Nat):=by
 induction b using Nat.strongRecOn generalizing a with
 | ind b ih =>
  by_cases h:b=0
  · subst h;rw [lN,Nat.gcd_zero_right];rfl
  · rw [nY h]
    have e:((a:Int)-((a/b:Nat):Int)*(b:Int))=((a%b:Nat):Int):=by
     have:=Nat.div_add_mod a b
     have h2:((b*(a/b)+a%b:Nat):Int)=(a:Int):=by rw [this]
     rw [Int.natCast_add,Int.natCast_mul,Int.mul_comm] at h2
     omega
    show (cf (quo b (a%b)) (b:Int) ((a:Int)-((a/b:Nat):Int)*(b:Int))).1=_
    rw [e,ih (a%b) (Nat.mod_lt _ (Nat.pos_of_ne_zero h)) b,Lg]
theorem bez (a b:Nat):(cf (quo a b) 1 0).1*(a:Int)+(cf (quo a b) 0 1).1*(b:Int)=(Nat.gcd a b:Nat):=by
 have h:=(Gi (a:Int) (b:Int) (quo a b) 1 0 0 1).1
 rw [h,← Lv a b]
 congr 2<;>simp
theorem ku (a b:Nat):(((Nat.gcd a b:Nat):Int)-(cf (quo a b) 1 0).1*(a:Int))=(cf (quo a b) 0 1).1*(b:Int):=by have:=bez a b;omega
theorem JV {a b:Nat} (hb:Sn b 90):Sz (cf (quo a b) 1 0).1 90:=by
 have h:=qi (a:=a) (b:=b) (pl:=quo a b) (rest:=[]) (by simp)
 show (limbs (cf (quo a b) 1 0).1.natAbs).length≤90
 have e:(cf (quo a b) 1 0).1.natAbs=(cs (quo a b) 1 0).1:=by
  rw [vY];cases decide ((quo a b).length%2=1)
  · rw [kM];omega
  · rw [um];omega
 rw [e]
 exact (uA hb).down h.1
theorem rQ {a b:Nat} (ha:Sn a 90):Sz (cf (quo a b) 0 1).1 90:=by
 obtain ⟨P,Q,_,hc⟩:=uy (A:=a) (M:=max a 1) (quo a b) a b 0 1 [] (Cf.second b (Nat.le_max_left a 1) (Nat.le_max_right a 1)) (by simp)
 exact (uA ha).down hc.left
theorem Lx {a b:Nat} (ha:Sn a 90) (hb:Sn b 90):Sn (Nat.gcd a b) 90:=by
 rcases Nat.eq_zero_or_pos a with h | h
 · rw [h,Nat.gcd_zero_left];exact hb
 · exact ha.down (Nat.gcd_le_left b h)
theorem EQ {n:Nat} {cs:List Code} {l:List (Nat × Value)} {w:World} {fn:Func} {R:Ending→World→Prop} {t t2 t3:Tmp} {v:Value} {N M:Nat} {b b':Bool} {m m':Value} (hr:fn.results=#[.tmp t,.cell t2 48,.cell t3 48]) (hv:Pl.look l t=some v) (hv2:Pl.look l t2=some (.pointer (some ⟨N,0,none⟩))) (hv3:Pl.look l t3=some (.pointer (some ⟨M,0,none⟩)))
  (hI:Ib w N b m) (hJ:Ib w M b' m') (h:R (.returned (.tuple #[v,.agg #[.bool b,m],.agg #[.bool b',m']])) w):Pl.V Tryz.prog (bodyPost Tryz.prog fn R) n [] (.ret::cs) l w:=Pl.zY fun a ha=>by
 refine ⟨ha.defers,_,?_,h⟩
 obtain ⟨h0,h1,h2,h3,h4⟩:=hI
 obtain ⟨g0,g1,g2,g3,g4⟩:=hJ
 unfold results
 rw [hr]
 have e0:a.tmps.getD t undef=v:=by rw [Array.getD_eq_getD_getElem?,ha.look t _ hv];rfl
 have e:a.tmps.getD t2 undef = .pointer (some ⟨N,0,none⟩):=by rw [Array.getD_eq_getD_getElem?,ha.look t2 _ hv2];rfl
 have e':a.tmps.getD t3 undef = .pointer (some ⟨M,0,none⟩):=by rw [Array.getD_eq_getD_getElem?,ha.look t3 _ hv3];rfl
 simp only [List.mapM_toArray,List.mapM_cons,List.mapM_nil,e0,e,e']
 go_simp
theorem wh (w:World) (CE Zu:Value) (a b:Nat) (LA:Un w CE a) (LC:Un w Zu b) (hla:Sn a 90) (hlb:Sn b 90) (hb0:b≠0) :
  Calls Tryz.prog 33 #[CE,Zu] w fun e w'=>∃ g u v,e = .returned (.tuple #[g,u,v])∧Un w' g (Nat.gcd a b)∧Zn w' u (cf (quo a b) 1 0).1∧Zn w' v (cf (quo a b) 0 1).1∧Ext w w':=by
 refine Pl.aZ (n:=41) (vs:=[CE,Zu]) Tryz.func33 rfl (by kernel_rfl) (by simp) ?_
 refine Pl.ay ?_
 refine Pl.ak (by kernel_rfl) ?_
 refine Pl.aF trivial rfl rfl rfl rfl rfl ?_
 refine bW rfl rfl rfl rfl (fun _ _=>trivial) ?_
 intro N1 w1 hB1 uU i_1
 refine bW rfl rfl rfl rfl (fun _ _=>trivial) ?_
 intro N2 w2 hB2 uV i_2
 refine Pl.aj ?_
 refine Pl.ay ?_
 refine Pl.ay ?_
 refine Pl.ak (by kernel_rfl) ?_
 refine Pl.aA trivial rfl rfl rfl rfl rfl ?_
 obtain ⟨Jd,Je,rfl,-⟩:=Un.sh LC
 refine eT trivial rfl rfl rfl rfl rfl ?_
 refine Pl.aN (v:=(.bool false)) trivial rfl rfl rfl rfl rfl rfl (fun X=>JU (EO.trans (decide_eq_false hb0)) X) ?_
 refine Pl.aj ?_
 refine Pl.bn rfl ?_
 refine Pl.bM ?_
 refine Pl.ay ?_
 refine Pl.ak (by kernel_rfl) ?_
 refine Pl.aA trivial rfl rfl rfl rfl rfl ?_
 refine Pl.aA trivial rfl rfl rfl rfl rfl ?_
 have uC:=Un.below LA (Ext.below hB1 hB2)
 have yT:=Un.below LC (Ext.below hB1 hB2)
 refine Pl.az rfl rfl rfl rfl rfl ah2 ?_
 refine Calls.mono (qj _ _ _ a b uC yT hla hlb) ?_
 rintro e w3 ⟨lH,CF,rfl,uB,nC,hB3⟩
 refine ⟨_,rfl,trivial,?_⟩
 have Er:Sn (Nat.gcd a b) 90:=Lx hla hlb
 have jJ:Sz (cf (quo a b) 1 0).1 90:=JV hlb
 refine Pl.aA trivial rfl rfl rfl rfl rfl ?_
 refine Pl.aL trivial rfl rfl rfl rfl rfl rfl ?_
 refine Pl.aL trivial rfl rfl rfl rfl rfl rfl ?_
 refine bW rfl rfl rfl rfl (fun _ _=>trivial) ?_
 intro N7 w4 hB4 uD i_7
 refine Pl.aF trivial rfl rfl rfl rfl rfl ?_
 obtain ⟨sZ,tq,tu,tC,rfl⟩:=Zn.sh nC
 refine lG rfl rfl rfl rfl rfl rfl i_7 (fun _ _=>trivial) ?_
 intro w5 QS ad6 Zv I_5
 have dJ:=QS _ hB4 (Nat.le_trans (Below.size (Ext.refl w3)) uD)
 refine Pl.aj ?_
 refine Pl.ay ?_
 refine Pl.j6 (S:=fun X=>Ext w5 X) fo (Ext.drew (Ext.refl _)) ?_
 generalize w5.drew=w6
 intro dV
 have gP:=dV
 refine Pl.oN 1 255 (fun l' w'=>∃ (N_9:Nat) (Zw:Value),l'=[(1,.slice Jd (limbs b).length Je),(4,.slice none 0 0),(5,.pointer (some ⟨N1,0,none⟩)),(6,.pointer (some ⟨N2,0,none⟩)),(7,lH),(8,.pointer (some ⟨N7,0,none⟩)),(9,.pointer (some ⟨N_9,0,none⟩)),(30,Zw)]∧Ext w5 w'∧w5.heap.size≤N_9∧Ib w' N_9 false (.slice none 0 0)∧Zn w' Zw ((((Nat.gcd a b):Nat):Int)-((cf (quo a b) 1 0).1*((a:Nat):Int)))) ?_ ?_
 rotate_left
 · intro hK
   refine Pl.aM [(true,0,0),(true,2,1),(true,3,5)] 13 6 Pl.aB (by kernel_rfl) (by kernel_rfl) (by kernel_rfl) ?_
   refine Pl.aA gP rfl rfl rfl rfl rfl ?_
   refine Pl.aX gP rfl rfl rfl rfl rfl (fun X hX=>Ib.load (Ib.ext I_5 hX)) ?_
   refine Pl.aA gP rfl rfl rfl rfl rfl ?_
   refine Pl.aj ?_
   refine Pl.bS [1,7] 5 (by kernel_rfl) (by kernel_rfl) (by kernel_rfl) (Pl.aC ?_ (Pl.aC ?_ Pl.aR))
   · have LD:=Un.below uB (Ext.below dJ dV)
     refine Pl.az rfl rfl rfl rfl rfl jm ?_
     refine Calls.mono (eH _ _ (Nat.gcd a b) LD) ?_
     rintro e w7 ⟨as5,rfl,LF,dP⟩
     have iK:=Ext.below gP dP
     refine ⟨_,rfl,iK,?_⟩
     have rR:Sz (((Nat.gcd a b):Nat):Int) 90:=Sn.sz Er
     refine Pl.aj ?_
     refine Pl.bS [4,7] 4 (by kernel_rfl) (by kernel_rfl) (by kernel_rfl) (Pl.aC ?_ (Pl.aC ?_ Pl.aR))
     · have QT:=Un.below uC (Ext.below hB3 (Ext.below dJ (Ext.below dV dP)))
       refine Pl.az rfl rfl rfl rfl rfl jm ?_
       refine Calls.mono (eH _ _ a QT) ?_
       rintro e w8 ⟨am8,rfl,NU,dU⟩
       have jk:=Ext.below iK dU
       refine ⟨_,rfl,jk,?_⟩
       have tF:Sz ((a:Nat):Int) 90:=Sn.sz hla
       refine Pl.aj ?_
       refine Pl.bS [5,7] 3 (by kernel_rfl) (by kernel_rfl) (by kernel_rfl) (Pl.aC ?_ (Pl.aC ?_ Pl.aR))
       · have nD:=Zn.below nC (Ext.below dJ (Ext.below dV (Ext.below dP dU)))
         refine Pl.az rfl rfl rfl rfl rfl Lu ?_
         refine Calls.mono (lT _ _ _ ((cf (quo a b) 1 0).1) ((a:Nat):Int) nD NU (Sz.le jJ (by decide)) (Sz.le tF (by decide)) _ rfl) ?_
         rintro e w9 ⟨Ub,rfl,Gm,gW⟩
         have nK:=Ext.below jk gW
         refine ⟨_,rfl,nK,?_⟩
         have iE:Sz ((cf (quo a b) 1 0).1*((a:Nat):Int)) 180:=Sz.mul jJ tF (by decide)
         refine Pl.aj ?_
         refine Pl.bS [6,7] 2 (by kernel_rfl) (by kernel_rfl) (by kernel_rfl) (Pl.aC ?_ (Pl.aC ?_ Pl.aR))
         · have LG:=Zn.below LF (Ext.below dU gW)
           refine Pl.az rfl rfl rfl rfl rfl Gf ?_
           refine Calls.mono (Gc _ _ _ (((Nat.gcd a b):Nat):Int) ((cf (quo a b) 1 0).1*((a:Nat):Int)) LG Gm (Sz.le rR (by decide)) (Sz.le iE (by decide)) _ rfl) ?_
           rintro e uY ⟨Gn,rfl,Gp,gy⟩
           have fQ:=Ext.below nK gy
           refine ⟨_,rfl,fQ,?_⟩
           have qo:Sz ((((Nat.gcd a b):Nat):Int)-((cf (quo a b) 1 0).1*((a:Nat):Int))) 181:=Sz.sub rR iE (by decide) (by decide)
           refine Pl.aj ?_
           refine Pl.aM [(false,7,127)] 255 1 Pl.aB (by kernel_rfl) (by kernel_rfl) (by kernel_rfl) ?_
           refine bW rfl rfl rfl rfl (fun _ k=>Ext.below fQ k) ?_
           intro zZ BU iD uS ah9
           have jD:=Ext.below fQ iD
           refine Pl.aj ?_
           have CG:=Zn.below Gp iD
           exact Pl.bN [(1,.slice Jd (limbs b).length Je),(4,.slice none 0 0),(5,.pointer (some ⟨N1,0,none⟩)),(6,.pointer (some ⟨N2,0,none⟩)),(7,lH),(8,.pointer (some ⟨N7,0,none⟩)),(9,.pointer (some ⟨zZ,0,none⟩)),(30,Gn)] (Pl.aa rfl (Pl.aa rfl (Pl.aa rfl (Pl.aa rfl (Pl.aa rfl (Pl.aa rfl (Pl.aa rfl (Pl.aa rfl Pl.aI)))))))) (hK _ _ ⟨zZ,Gn,rfl,(Ext.below dV (Ext.below dP (Ext.below dU (Ext.below gW (Ext.below gy iD))))),(Nat.le_trans (Below.size (Ext.below dV (Ext.below dP (Ext.below dU (Ext.below gW gy))))) uS),ah9,CG⟩)
         · refine bW rfl rfl rfl rfl (fun _ k=>Ext.below nK k) ?_
           intro N14 uY gy Zx ah'
           have fQ:=Ext.below nK gy
           refine Pl.aj ?_
           refine Pl.aM [(false,6,191)] 255 1 Pl.aB (by kernel_rfl) (by kernel_rfl) (by kernel_rfl) ?_
           have kN:=Zn.below LF (Ext.below dU (Ext.below gW gy))
           have CJ:=Zn.below Gm gy
           refine Pl.az rfl rfl rfl rfl rfl Gf ?_
           refine Calls.mono (Gc _ _ _ (((Nat.gcd a b):Nat):Int) ((cf (quo a b) 1 0).1*((a:Nat):Int)) kN CJ (Sz.le rR (by decide)) (Sz.le iE (by decide)) _ rfl) ?_
           rintro e BU ⟨wm,rfl,Gq,iD⟩
           have jD:=Ext.below fQ iD
           refine ⟨_,rfl,jD,?_⟩
           have Zy:Sz ((((Nat.gcd a b):Nat):Int)-((cf (quo a b) 1 0).1*((a:Nat):Int))) 181:=Sz.sub rR iE (by decide) (by decide)
           refine Pl.aj ?_
           have Gs:=Ib.ext ah' iD
           exact Pl.bN [(1,.slice Jd (limbs b).length Je),(4,.slice none 0 0),(5,.pointer (some ⟨N1,0,none⟩)),(6,.pointer (some ⟨N2,0,none⟩)),(7,lH),(8,.pointer (some ⟨N7,0,none⟩)),(9,.pointer (some ⟨N14,0,none⟩)),(30,wm)] (Pl.aa rfl (Pl.aa rfl (Pl.aa rfl (Pl.aa rfl (Pl.aa rfl (Pl.aa rfl (Pl.aa rfl (Pl.aa rfl Pl.aI)))))))) (hK _ _ ⟨N14,wm,rfl,(Ext.below dV (Ext.below dP (Ext.below dU (Ext.below gW (Ext.below gy iD))))),(Nat.le_trans (Below.size (Ext.below dV (Ext.below dP (Ext.below dU gW)))) Zx),Gs,Gq⟩)
       · refine bW rfl rfl rfl rfl (fun _ k=>Ext.below jk k) ?_
         intro Xg w9 gW D8 QU
         have nK:=Ext.below jk gW
         refine Pl.aj ?_
         refine Pl.aM [(false,5,159),(false,6,191)] 255 1 Pl.aB (by kernel_rfl) (by kernel_rfl) (by kernel_rfl) ?_
         have nE:=Zn.below nC (Ext.below dJ (Ext.below dV (Ext.below dP (Ext.below dU gW))))
         have Gt:=Zn.below NU gW
         refine Pl.az rfl rfl rfl rfl rfl Lu ?_
         refine Calls.mono (lT _ _ _ ((cf (quo a b) 1 0).1) ((a:Nat):Int) nE Gt (Sz.le jJ (by decide)) (Sz.le tF (by decide)) _ rfl) ?_
         rintro e uY ⟨Gn,rfl,Gp,gy⟩
         have fQ:=Ext.below nK gy
         refine ⟨_,rfl,fQ,?_⟩
         have qo:Sz ((cf (quo a b) 1 0).1*((a:Nat):Int)) 180:=Sz.mul jJ tF (by decide)
         have kN:=Zn.below LF (Ext.below dU (Ext.below gW gy))
         refine Pl.az rfl rfl rfl rfl rfl Gf ?_
         refine Calls.mono (Gc _ _ _ (((Nat.gcd a b):Nat):Int) ((cf (quo a b) 1 0).1*((a:Nat):Int)) kN Gp (Sz.le rR (by decide)) (Sz.le qo (by decide)) _ rfl) ?_
         rintro e BU ⟨wm,rfl,Gq,iD⟩
         have jD:=Ext.below fQ iD
         refine ⟨_,rfl,jD,?_⟩
         have Zy:Sz ((((Nat.gcd a b):Nat):Int)-((cf (quo a b) 1 0).1*((a:Nat):Int))) 181:=Sz.sub rR qo (by decide) (by decide)
         refine Pl.aj ?_
         have Gv:=Ib.ext QU (Ext.below gy iD)
         exact Pl.bN [(1,.slice Jd (limbs b).length Je),(4,.slice none 0 0),(5,.pointer (some ⟨N1,0,none⟩)),(6,.pointer (some ⟨N2,0,none⟩)),(7,lH),(8,.pointer (some ⟨N7,0,none⟩)),(9,.pointer (some ⟨Xg,0,none⟩)),(30,wm)] (Pl.aa rfl (Pl.aa rfl (Pl.aa rfl (Pl.aa rfl (Pl.aa rfl (Pl.aa rfl (Pl.aa rfl (Pl.aa rfl Pl.aI)))))))) (hK _ _ ⟨Xg,wm,rfl,(Ext.below dV (Ext.below dP (Ext.below dU (Ext.below gW (Ext.below gy iD))))),(Nat.le_trans (Below.size (Ext.below dV (Ext.below dP dU))) D8),Gv,Gq⟩)
     · refine bW rfl rfl rfl rfl (fun _ k=>Ext.below iK k) ?_
       intro N10 w8 dU JW aia
       have jk:=Ext.below iK dU
       refine Pl.aj ?_
       refine Pl.aM [(false,4,143),(false,5,159),(false,6,191)] 255 1 Pl.aB (by kernel_rfl) (by kernel_rfl) (by kernel_rfl) ?_
       have yU:=Un.below uC (Ext.below hB3 (Ext.below dJ (Ext.below dV (Ext.below dP dU))))
       refine Pl.az rfl rfl rfl rfl rfl jm ?_
       refine Calls.mono (eH _ _ a yU) ?_
       rintro e w9 ⟨Zz,rfl,Gw,gW⟩
       have nK:=Ext.below jk gW
       refine ⟨_,rfl,nK,?_⟩
       have wo:Sz ((a:Nat):Int) 90:=Sn.sz hla
       have nE:=Zn.below nC (Ext.below dJ (Ext.below dV (Ext.below dP (Ext.below dU gW))))
       refine Pl.az rfl rfl rfl rfl rfl Lu ?_
       refine Calls.mono (lT _ _ _ ((cf (quo a b) 1 0).1) ((a:Nat):Int) nE Gw (Sz.le jJ (by decide)) (Sz.le wo (by decide)) _ rfl) ?_
       rintro e uY ⟨ZA,rfl,Gx,gy⟩
       have fQ:=Ext.below nK gy
       refine ⟨_,rfl,fQ,?_⟩
       have wu:Sz ((cf (quo a b) 1 0).1*((a:Nat):Int)) 180:=Sz.mul jJ wo (by decide)
       have kN:=Zn.below LF (Ext.below dU (Ext.below gW gy))
       refine Pl.az rfl rfl rfl rfl rfl Gf ?_
       refine Calls.mono (Gc _ _ _ (((Nat.gcd a b):Nat):Int) ((cf (quo a b) 1 0).1*((a:Nat):Int)) kN Gx (Sz.le rR (by decide)) (Sz.le wu (by decide)) _ rfl) ?_
       rintro e BU ⟨ww,rfl,Gy,iD⟩
       have jD:=Ext.below fQ iD
       refine ⟨_,rfl,jD,?_⟩
       have ZB:Sz ((((Nat.gcd a b):Nat):Int)-((cf (quo a b) 1 0).1*((a:Nat):Int))) 181:=Sz.sub rR wu (by decide) (by decide)
       refine Pl.aj ?_
       have Gz:=Ib.ext aia (Ext.below gW (Ext.below gy iD))
       exact Pl.bN [(1,.slice Jd (limbs b).length Je),(4,.slice none 0 0),(5,.pointer (some ⟨N1,0,none⟩)),(6,.pointer (some ⟨N2,0,none⟩)),(7,lH),(8,.pointer (some ⟨N7,0,none⟩)),(9,.pointer (some ⟨N10,0,none⟩)),(30,ww)] (Pl.aa rfl (Pl.aa rfl (Pl.aa rfl (Pl.aa rfl (Pl.aa rfl (Pl.aa rfl (Pl.aa rfl (Pl.aa rfl Pl.aI)))))))) (hK _ _ ⟨N10,ww,rfl,(Ext.below dV (Ext.below dP (Ext.below dU (Ext.below gW (Ext.below gy iD))))),(Nat.le_trans (Below.size (Ext.below dV dP)) JW),Gz,Gy⟩)
   · refine bW rfl rfl rfl rfl (fun _ k=>Ext.below gP k) ?_
     intro N8 w7 dP GG i_8
     have iK:=Ext.below gP dP
     refine Pl.aj ?_
     refine Pl.aM [(false,1,141),(false,4,143),(false,5,159),(false,6,191)] 255 1 Pl.aB (by kernel_rfl) (by kernel_rfl) (by kernel_rfl) ?_
     have uE:=Un.below uB (Ext.below dJ (Ext.below dV dP))
     refine Pl.az rfl rfl rfl rfl rfl jm ?_
     refine Calls.mono (eH _ _ (Nat.gcd a b) uE) ?_
     rintro e w8 ⟨anb,rfl,ZC,dU⟩
     have jk:=Ext.below iK dU
     refine ⟨_,rfl,jk,?_⟩
     have NV:Sz (((Nat.gcd a b):Nat):Int) 90:=Sn.sz Er
     have yU:=Un.below uC (Ext.below hB3 (Ext.below dJ (Ext.below dV (Ext.below dP dU))))
     refine Pl.az rfl rfl rfl rfl rfl jm ?_
     refine Calls.mono (eH _ _ a yU) ?_
     rintro e w9 ⟨Zz,rfl,Gw,gW⟩
     have nK:=Ext.below jk gW
     refine ⟨_,rfl,nK,?_⟩
     have wo:Sz ((a:Nat):Int) 90:=Sn.sz hla
     have nE:=Zn.below nC (Ext.below dJ (Ext.below dV (Ext.below dP (Ext.below dU gW))))
     refine Pl.az rfl rfl rfl rfl rfl Lu ?_
     refine Calls.mono (lT _ _ _ ((cf (quo a b) 1 0).1) ((a:Nat):Int) nE Gw (Sz.le jJ (by decide)) (Sz.le wo (by decide)) _ rfl) ?_
     rintro e uY ⟨ZA,rfl,Gx,gy⟩
     have fQ:=Ext.below nK gy
     refine ⟨_,rfl,fQ,?_⟩
     have wu:Sz ((cf (quo a b) 1 0).1*((a:Nat):Int)) 180:=Sz.mul jJ wo (by decide)
     have CK:=Zn.below ZC (Ext.below gW gy)
     refine Pl.az rfl rfl rfl rfl rfl Gf ?_
     refine Calls.mono (Gc _ _ _ (((Nat.gcd a b):Nat):Int) ((cf (quo a b) 1 0).1*((a:Nat):Int)) CK Gx (Sz.le NV (by decide)) (Sz.le wu (by decide)) _ rfl) ?_
     rintro e BU ⟨ww,rfl,Gy,iD⟩
     have jD:=Ext.below fQ iD
     refine ⟨_,rfl,jD,?_⟩
     have ZB:Sz ((((Nat.gcd a b):Nat):Int)-((cf (quo a b) 1 0).1*((a:Nat):Int))) 181:=Sz.sub NV wu (by decide) (by decide)
     refine Pl.aj ?_
     have LH:=Ib.ext i_8 (Ext.below dU (Ext.below gW (Ext.below gy iD)))
     exact Pl.bN [(1,.slice Jd (limbs b).length Je),(4,.slice none 0 0),(5,.pointer (some ⟨N1,0,none⟩)),(6,.pointer (some ⟨N2,0,none⟩)),(7,lH),(8,.pointer (some ⟨N7,0,none⟩)),(9,.pointer (some ⟨N8,0,none⟩)),(30,ww)] (Pl.aa rfl (Pl.aa rfl (Pl.aa rfl (Pl.aa rfl (Pl.aa rfl (Pl.aa rfl (Pl.aa rfl (Pl.aa rfl Pl.aI)))))))) (hK _ _ ⟨N8,ww,rfl,(Ext.below dV (Ext.below dP (Ext.below dU (Ext.below gW (Ext.below gy iD))))),(Nat.le_trans (Below.size dV) GG),LH,Gy⟩)
 rintro _ anc ⟨aib,VX,rfl,yx,qp,GH,tH⟩
 have JX:=yx
 have rR:Sz (((Nat.gcd a b):Nat):Int) 90:=Sn.sz Er
 have tF:Sz ((a:Nat):Int) 90:=Sn.sz hla
 have iE:Sz ((cf (quo a b) 1 0).1*((a:Nat):Int)) 180:=Sz.mul jJ tF (by decide)
 have qo:Sz ((((Nat.gcd a b):Nat):Int)-((cf (quo a b) 1 0).1*((a:Nat):Int))) 181:=Sz.sub rR iE (by decide) (by decide)
 refine Pl.aM [(false,8,255)] 511 0 Pl.aB (by kernel_rfl) (by kernel_rfl) (by kernel_rfl) ?_
 obtain ⟨VY,VZ,V3,V4,rfl⟩:=Zn.sh tH
 refine lG rfl rfl rfl rfl rfl rfl GH (fun _ T=>T _ JX (Nat.le_trans (Below.size (Ext.refl w5)) qp)) ?_
 intro yV GI QV aic ZE
 have jf:=GI _ yx (Nat.le_trans (Below.size (Ext.refl w5)) qp)
 have ane:=GI _ JX (Nat.le_trans (Below.size (Ext.refl w5)) qp)
 have iL:=QV _ _ tH
 refine Pl.aj ?_
 refine Pl.uT (by kernel_rfl) ?_
 refine Pl.ay ?_
 refine Pl.j6 (S:=fun X=>Ext yV X) fo (Ext.drew (Ext.refl _)) ?_
 generalize yV.drew=as6
 intro jT
 have wy:=jT
 refine Pl.oN 2 255 (fun l' w'=>∃ (QW:Nat) (ZF:Value),l'=[(4,.slice none 0 0),(5,.pointer (some ⟨N1,0,none⟩)),(6,.pointer (some ⟨N2,0,none⟩)),(7,lH),(8,.pointer (some ⟨N7,0,none⟩)),(10,.pointer (some ⟨QW,0,none⟩)),(36,ZF),(37,(.bool true))]∧Ext yV w'∧yV.heap.size≤QW∧Ib w' QW false (.slice none 0 0)∧Zn w' ZF ((cf (quo a b) 0 1).1)) ?_ ?_
 rotate_left
 · intro hK
   refine Pl.aM [(true,0,0),(true,1,1)] 3 8 Pl.aB (by kernel_rfl) (by kernel_rfl) (by kernel_rfl) ?_
   refine Pl.aX wy rfl rfl rfl rfl rfl (fun X hX=>Ib.load (Ib.ext ZE hX)) ?_
   refine Pl.aA wy rfl rfl rfl rfl rfl ?_
   refine Pl.aj ?_
   refine Pl.bS [2,7] 7 (by kernel_rfl) (by kernel_rfl) (by kernel_rfl) (Pl.aC ?_ (Pl.aC ?_ Pl.aR))
   · have GJ:=Un.below yT (Ext.below hB3 (Ext.below dJ (Ext.below jf jT)))
     refine Pl.az rfl rfl rfl rfl rfl jm ?_
     refine Calls.mono (eH _ _ b GJ) ?_
     rintro e ad9 ⟨anf,rfl,NW,iw⟩
     have nG:=Ext.below wy iw
     refine ⟨_,rfl,nG,?_⟩
     have GK:Sz ((b:Nat):Int) 90:=Sn.sz hlb
     refine Pl.aj ?_
     refine Pl.bS [3,7] 6 (by kernel_rfl) (by kernel_rfl) (by kernel_rfl) (Pl.aC ?_ (Pl.aC ?_ Pl.aR))
     · have qw:=Zn.below iL (Ext.below jT iw)
       refine Pl.az rfl rfl rfl rfl rfl QR ?_
       refine Calls.mono (jl _ _ _ ((((Nat.gcd a b):Nat):Int)-((cf (quo a b) 1 0).1*((a:Nat):Int))) ((b:Nat):Int) qw NW (Sz.le qo (by decide)) (Sz.le GK (by decide)) (by omega) (by rw [ku];exact Int.mul_emod_left _ _) (cf (quo a b) 0 1).1 (by rw [ku];exact Int.mul_ediv_cancel _ (by omega))) ?_
       rintro e NY ⟨NZ,rfl,ZG,gB⟩
       have iM:=Ext.below nG gB
       refine ⟨_,rfl,iM,?_⟩
       have ZH:Sz (cf (quo a b) 0 1).1 90:=rQ hla
       refine Pl.aj ?_
       refine Pl.aM [(true,4,15),(true,5,31),(true,6,63),(false,7,127)] 255 2 Pl.aB (by kernel_rfl) (by kernel_rfl) (by kernel_rfl) ?_
       refine Pl.aA iM rfl rfl rfl rfl rfl ?_
       refine Pl.aL iM rfl rfl rfl rfl rfl rfl ?_
       refine Pl.aL iM rfl rfl rfl rfl rfl rfl ?_
       refine bW rfl rfl rfl rfl (fun _ k=>Ext.below iM k) ?_
       intro N72 ZI kP ZJ aid
       have lU:=Ext.below iM kP
       refine Pl.aj ?_
       have yX:=Zn.below ZG kP
       exact Pl.bN [(4,.slice none 0 0),(5,.pointer (some ⟨N1,0,none⟩)),(6,.pointer (some ⟨N2,0,none⟩)),(7,lH),(8,.pointer (some ⟨N7,0,none⟩)),(10,.pointer (some ⟨N72,0,none⟩)),(36,NZ),(37,(.bool true))] (Pl.aa rfl (Pl.aa rfl (Pl.aa rfl (Pl.aa rfl (Pl.aa rfl (Pl.aa rfl (Pl.aa rfl (Pl.aa rfl Pl.aI)))))))) (hK _ _ ⟨N72,NZ,rfl,(Ext.below jT (Ext.below iw (Ext.below gB kP))),(Nat.le_trans (Below.size (Ext.below jT (Ext.below iw gB))) ZJ),aid,yX⟩)
     · refine bW rfl rfl rfl rfl (fun _ k=>Ext.below nG k) ?_
       intro N70 NY gB ZK aie
       have iM:=Ext.below nG gB
       refine Pl.aj ?_
       refine Pl.aM [(false,3,135),(true,4,143),(true,5,159),(true,6,191)] 255 2 Pl.aB (by kernel_rfl) (by kernel_rfl) (by kernel_rfl) ?_
       have iN:=Zn.below iL (Ext.below jT (Ext.below iw gB))
       have yY:=Zn.below NW gB
       refine Pl.az rfl rfl rfl rfl rfl QR ?_
       refine Calls.mono (jl _ _ _ ((((Nat.gcd a b):Nat):Int)-((cf (quo a b) 1 0).1*((a:Nat):Int))) ((b:Nat):Int) iN yY (Sz.le qo (by decide)) (Sz.le GK (by decide)) (by omega) (by rw [ku];exact Int.mul_emod_left _ _) (cf (quo a b) 0 1).1 (by rw [ku];exact Int.mul_ediv_cancel _ (by omega))) ?_
       rintro e ZI ⟨Oa,rfl,ZL,kP⟩
       have lU:=Ext.below iM kP
       refine ⟨_,rfl,lU,?_⟩
       have ani:Sz (cf (quo a b) 0 1).1 90:=rQ hla
       refine Pl.aA lU rfl rfl rfl rfl rfl ?_
       refine Pl.aL lU rfl rfl rfl rfl rfl rfl ?_
       refine Pl.aL lU rfl rfl rfl rfl rfl rfl ?_
       refine Pl.aj ?_
       have CL:=Ib.ext aie kP
       exact Pl.bN [(4,.slice none 0 0),(5,.pointer (some ⟨N1,0,none⟩)),(6,.pointer (some ⟨N2,0,none⟩)),(7,lH),(8,.pointer (some ⟨N7,0,none⟩)),(10,.pointer (some ⟨N70,0,none⟩)),(36,Oa),(37,(.bool true))] (Pl.aa rfl (Pl.aa rfl (Pl.aa rfl (Pl.aa rfl (Pl.aa rfl (Pl.aa rfl (Pl.aa rfl (Pl.aa rfl Pl.aI)))))))) (hK _ _ ⟨N70,Oa,rfl,(Ext.below jT (Ext.below iw (Ext.below gB kP))),(Nat.le_trans (Below.size (Ext.below jT iw)) ZK),CL,ZL⟩)
   · refine bW rfl rfl rfl rfl (fun _ k=>Ext.below wy k) ?_
     intro N68 ad9 iw ZM aif
     have nG:=Ext.below wy iw
     refine Pl.aj ?_
     refine Pl.aM [(false,2,131),(false,3,135),(true,4,143),(true,5,159),(true,6,191)] 255 2 Pl.aB (by kernel_rfl) (by kernel_rfl) (by kernel_rfl) ?_
     have GL:=Un.below yT (Ext.below hB3 (Ext.below dJ (Ext.below jf (Ext.below jT iw))))
     refine Pl.az rfl rfl rfl rfl rfl jm ?_
     refine Calls.mono (eH _ _ b GL) ?_
     rintro e NY ⟨ank,rfl,ZN,gB⟩
     have iM:=Ext.below nG gB
     refine ⟨_,rfl,iM,?_⟩
     have ZO:Sz ((b:Nat):Int) 90:=Sn.sz hlb
     have iN:=Zn.below iL (Ext.below jT (Ext.below iw gB))
     refine Pl.az rfl rfl rfl rfl rfl QR ?_
     refine Calls.mono (jl _ _ _ ((((Nat.gcd a b):Nat):Int)-((cf (quo a b) 1 0).1*((a:Nat):Int))) ((b:Nat):Int) iN ZN (Sz.le qo (by decide)) (Sz.le ZO (by decide)) (by omega) (by rw [ku];exact Int.mul_emod_left _ _) (cf (quo a b) 0 1).1 (by rw [ku];exact Int.mul_ediv_cancel _ (by omega))) ?_
     rintro e ZI ⟨Ob,rfl,ZP,kP⟩
     have lU:=Ext.below iM kP
     refine ⟨_,rfl,lU,?_⟩
     have anl:Sz (cf (quo a b) 0 1).1 90:=rQ hla
     refine Pl.aA lU rfl rfl rfl rfl rfl ?_
     refine Pl.aL lU rfl rfl rfl rfl rfl rfl ?_
     refine Pl.aL lU rfl rfl rfl rfl rfl rfl ?_
     refine Pl.aj ?_
     have CO:=Ib.ext aif (Ext.below gB kP)
     exact Pl.bN [(4,.slice none 0 0),(5,.pointer (some ⟨N1,0,none⟩)),(6,.pointer (some ⟨N2,0,none⟩)),(7,lH),(8,.pointer (some ⟨N7,0,none⟩)),(10,.pointer (some ⟨N68,0,none⟩)),(36,Ob),(37,(.bool true))] (Pl.aa rfl (Pl.aa rfl (Pl.aa rfl (Pl.aa rfl (Pl.aa rfl (Pl.aa rfl (Pl.aa rfl (Pl.aa rfl Pl.aI)))))))) (hK _ _ ⟨N68,Ob,rfl,(Ext.below jT (Ext.below iw (Ext.below gB kP))),(Nat.le_trans (Below.size jT) ZM),CO,ZP⟩)
 rintro _ as7 ⟨uF,V5,rfl,Oc,eY,CP,tJ⟩
 have Od:=Oc
 have GK:Sz ((b:Nat):Int) 90:=Sn.sz hlb
 have ZH:Sz (cf (quo a b) 0 1).1 90:=rQ hla
 refine Pl.aM [(false,8,255),(true,9,511)] 1023 0 Pl.aB (by kernel_rfl) (by kernel_rfl) (by kernel_rfl) ?_
 obtain ⟨nS,nT,nU,nV,rfl⟩:=Zn.sh tJ
 refine lG rfl rfl rfl rfl rfl rfl CP (fun _ T=>T _ Od (Nat.le_trans (Below.size (Ext.refl yV)) eY)) ?_
 intro V6 GM QX aih Oe
 have lV:=GM _ Oc (Nat.le_trans (Below.size (Ext.refl yV)) eY)
 have GN:=GM _ Od (Nat.le_trans (Below.size (Ext.refl yV)) eY)
 have qx:=QX _ _ tJ
 refine Pl.aF GN rfl rfl rfl rfl rfl ?_
 refine Pl.aj ?_
 refine Pl.uT (by kernel_rfl) ?_
 refine Pl.ay ?_
 have wz:=Ib.ext I_5 (Ext.below jf lV)
 refine Pl.iJ (S:=fun X=>Ib X N7 sZ (.slice tq tu tC)∧Ib X uF nS (.slice nT nU nV)) [(true,0,0),(true,1,1),(true,2,3),(true,3,7),(false,4,15),(false,5,31)] fo Pl.aB (by kernel_rfl) ⟨Ib.ext wz (Ext.drew (Ext.refl _)),Ib.ext Oe (Ext.drew (Ext.refl _))⟩ ?_
 have jE:=Ext.drew (Ext.refl V6)
 generalize V6.drew=aii at *
 intro kQ
 refine Pl.aA kQ rfl rfl rfl rfl rfl ?_
 refine Pl.aX kQ rfl rfl rfl rfl rfl (fun X hX=>Ib.load hX.1) ?_
 refine Pl.aX kQ rfl rfl rfl rfl rfl (fun X hX=>Ib.load hX.2) ?_
 refine Pl.aF kQ rfl rfl rfl rfl rfl ?_
 have GQ:=Ib.ext i_1 (Ext.below hB2 (Ext.below hB3 (Ext.below dJ (Ext.below jf (Ext.below lV jE)))))
 have GR:=Ib.ext wz jE
 have yZ:=Ib.ext Oe jE
 have GU:=Ib.ext i_2 (Ext.below hB3 (Ext.below dJ (Ext.below jf (Ext.below lV jE))))
 have CQ:=Zn.below nC (Ext.below dJ (Ext.below jf (Ext.below lV jE)))
 have qy:=Zn.below qx jE
 have CR:=Un.below uB (Ext.below dJ (Ext.below jf (Ext.below lV jE)))
 have anm:=kQ
 refine Gg rfl rfl rfl rfl rfl rfl GQ (fun Y T3=>⟨T3 _ _ _ (Nat.ne_of_gt (Nat.lt_of_lt_of_le (Ib.ext i_1 (Ext.below hB2 hB3)).1 uD)) kQ.1,T3 _ _ _ (Nat.ne_of_gt (Nat.lt_of_lt_of_le (Ib.ext i_1 (Ext.below hB2 (Ext.below hB3 (Ext.below dJ jf)))).1 eY)) kQ.2⟩) ?_
 intro V7 QY y7 qA ZQ
 have Bc:=QY _ (Ext.below hB1 (Ext.below hB2 (Ext.below hB3 (Ext.below dJ (Ext.below jf (Ext.below lV jE)))))) (Nat.le_trans (Below.size (Ext.refl w)) uU)
 have rF:=(⟨qA _ _ _ (Nat.ne_of_gt (Nat.lt_of_lt_of_le (Ib.ext i_1 (Ext.below hB2 hB3)).1 uD)) kQ.1,qA _ _ _ (Nat.ne_of_gt (Nat.lt_of_lt_of_le (Ib.ext i_1 (Ext.below hB2 (Ext.below hB3 (Ext.below dJ jf)))).1 eY)) kQ.2⟩:Ib V7 N7 sZ (.slice tq tu tC)∧Ib V7 uF nS (.slice nT nU nV))
 have GV:=qA _ _ _ (Nat.ne_of_gt (Nat.lt_of_lt_of_le (Ib.ext i_1 (Ext.refl w1)).1 uV)) GU
 have tK:=y7 _ _ CQ
 have GX:=qA _ _ _ (Nat.ne_of_gt (Nat.lt_of_lt_of_le (Ib.ext i_1 (Ext.below hB2 hB3)).1 uD)) GR
 have qB:=y7 _ _ qy
 have y8:=qA _ _ _ (Nat.ne_of_gt (Nat.lt_of_lt_of_le (Ib.ext i_1 (Ext.below hB2 (Ext.below hB3 (Ext.below dJ jf)))).1 eY)) yZ
 have CS:=T2.un y7 CR
 have ann:=rF
 refine Gg rfl rfl rfl rfl rfl rfl GV (fun Y T3=>⟨T3 _ _ _ (Nat.ne_of_gt (Nat.lt_of_lt_of_le (Ib.ext i_2 hB3).1 uD)) rF.1,T3 _ _ _ (Nat.ne_of_gt (Nat.lt_of_lt_of_le (Ib.ext i_2 (Ext.below hB3 (Ext.below dJ jf))).1 eY)) rF.2⟩) ?_
 intro V8 QZ y9 qC ZR
 have D9:=QZ _ Bc (Nat.le_trans (Below.size hB1) uV)
 have GY:=(⟨qC _ _ _ (Nat.ne_of_gt (Nat.lt_of_lt_of_le (Ib.ext i_2 hB3).1 uD)) rF.1,qC _ _ _ (Nat.ne_of_gt (Nat.lt_of_lt_of_le (Ib.ext i_2 (Ext.below hB3 (Ext.below dJ jf))).1 eY)) rF.2⟩:Ib V8 N7 sZ (.slice tq tu tC)∧Ib V8 uF nS (.slice nT nU nV))
 have CU:=y9 _ _ tK
 have ze:=qC _ _ _ (Nat.ne_of_lt (Nat.lt_of_lt_of_le (Ib.ext i_1 (Ext.refl w1)).1 uV)) ZQ
 have ZT:=qC _ _ _ (Nat.ne_of_gt (Nat.lt_of_lt_of_le (Ib.ext i_2 hB3).1 uD)) GX
 have qD:=y9 _ _ qB
 have Q0:=qC _ _ _ (Nat.ne_of_gt (Nat.lt_of_lt_of_le (Ib.ext i_2 (Ext.below hB3 (Ext.below dJ jf))).1 eY)) y8
 have CV:=T2.un y9 CS
 refine Pl.aj ?_
 refine EQ rfl rfl rfl rfl ze ZR ?_
 exact ⟨_,_,_,rfl,CV,CU,qD,D9⟩
end Go.Proofs.YtfhcmggpojhegaaGreatDoor
namespace Go.Proofs.YtfhcmggpojhegaaGreatDoor
open Go.RowKit
set_option linter.all false
set_option maxRecDepth 100000
set_option maxHeartbeats 8000000
theorem Wd {n m:Nat} (hl:(limbs n).length=(limbs m).length) (h:∀ j,j<(limbs n).length→lb (limbs n) j=lb (limbs m) j):n=m:=by
 have e:limbs n=limbs m:=by
  refine List.ext_getElem hl fun j h1 h2=>?_
  have:=h j h1
  simpa [lb,h1,h2] using this
 rw [← aO n,← aO m,e]
section
variable {x y:Operand}
theorem aiI {a b:Nat} {v:Bool} (h:(a != b)=v) (X:World):(do eqGuard .neq 27 x y (.int .u32 (a:Int)) (.int .u32 (b:Int));binOp .neq 27 (.int .u32 (a:Int)) (.int .u32 (b:Int)):Sem Value).run Tryz.prog X = .ok (.bool v) X:=by
 have e:(((a:Nat):Int) != ((b:Nat):Int))=v:=by rw [← h,Bool.eq_iff_iff];simp;omega
 clear h
 subst e
 go_simp
end
theorem wF (w:World) (va vb:Value) (n m:Nat) (ha:Un w va n) (hb:Un w vb m) (hln:(limbs n).length≤900000) :
  Calls Tryz.prog 78 #[va,vb] w fun e w'=>e = .returned (.bool (decide (n=m)))∧Ext w w':=by
 obtain ⟨Aa,ca,rfl,-⟩:=Un.sh ha
 obtain ⟨Ab,cb,rfl,-⟩:=Un.sh hb
 refine Pl.aZ (n:=26) (vs:=[.slice Aa (limbs n).length ca,.slice Ab (limbs m).length cb]) Tryz.func78 rfl (by kernel_rfl) (by simp) ?_
 repeat refine Pl.ay ?_
 refine Pl.ak (by kernel_rfl) ?_
 refine Pl.aF trivial rfl rfl rfl rfl rfl ?_
 refine Pl.aj ?_
 by_cases hl:(limbs n).length=(limbs m).length
 · repeat refine Pl.ay ?_
   refine Pl.ak (by kernel_rfl) ?_
   refine Pl.aA trivial rfl rfl rfl rfl rfl ?_
   refine eT trivial rfl rfl rfl rfl rfl ?_
   refine Pl.aA trivial rfl rfl rfl rfl rfl ?_
   refine eT trivial rfl rfl rfl rfl rfl ?_
   refine Pl.aN (v:=.bool false) trivial rfl rfl rfl rfl rfl rfl (fun X=>afZ (by rw [hl];simp) X) ?_
   refine Pl.aj ?_
   repeat refine Pl.ay ?_
   refine Pl.bn rfl ?_
   repeat refine Pl.ay ?_
   refine Pl.bM ?_
   repeat refine Pl.ay ?_
   refine Pl.ak (by kernel_rfl) ?_
   refine Pl.aA trivial rfl rfl rfl rfl rfl ?_
   refine eT trivial rfl rfl rfl rfl rfl ?_
   refine Pl.aA trivial rfl rfl rfl rfl rfl ?_
   refine Pl.aj ?_
   repeat refine Pl.ay ?_
   refine Pl.eF [(0,.slice Aa (limbs n).length ca),(1,.slice Ab (limbs m).length cb),(12,.int .i64 ((limbs n).length:Int)),(13,.int .i64 (((0:Nat):Int):Int))] (Pl.aa rfl (Pl.aa rfl (Pl.aa rfl (Pl.aa rfl Pl.aI)))) ?_
   repeat refine Pl.ay ?_
   refine Pl.dM ?_
   repeat refine Pl.ay ?_
   refine Pl.pV (fun k l' w'=>∃ i:Nat,k=(limbs n).length-i∧i≤(limbs n).length∧(∀ j,j<i→lb (limbs n) j=lb (limbs m) j)∧Ext w w'∧l'=[(0,.slice Aa (limbs n).length ca),(1,.slice Ab (limbs m).length cb),(12,.int .i64 ((limbs n).length:Int)),(13,.int .i64 (i:Int))]) (limbs n).length ⟨0,rfl,Nat.zero_le _,fun j hj=>absurd hj (Nat.not_lt_zero _),Ext.refl w,rfl⟩ ?_
   rintro k _ W ⟨i,rfl,hi,hj,hE,rfl⟩
   by_cases hin:i<(limbs n).length
   · repeat refine Pl.ay ?_
     refine Pl.ak (by kernel_rfl) ?_
     refine Pl.aN (v:=.bool true) trivial rfl rfl rfl rfl rfl rfl (fun X=>jc (decide_eq_true (by omega)) X) ?_
     refine Pl.aj ?_
     repeat refine Pl.ay ?_
     refine Pl.cK rfl ?_
     repeat refine Pl.ay ?_
     refine Pl.bM ?_
     repeat refine Pl.ay ?_
     refine Pl.dM ?_
     repeat refine Pl.ay ?_
     refine Pl.ak (by kernel_rfl) ?_
     refine Pl.aA trivial rfl rfl rfl rfl rfl ?_
     refine Pl.aF trivial rfl rfl rfl rfl rfl ?_
     refine Pl.aj ?_
     obtain ⟨p1,hi1,hl1⟩:=U.at ha hin
     obtain ⟨p2,hi2,hl2⟩:=U.at hb (show i<(limbs m).length by omega)
     obtain ⟨bb,hbb⟩:∃ bb,(lb (limbs n) i != lb (limbs m) i)=bb:=⟨_,rfl⟩
     repeat refine Pl.ay ?_
     refine Pl.iJ (S:=fun X=>Ext w X) [(true,0,0),(true,1,1),(true,2,3),(true,3,7),(true,4,15),(true,5,31),(true,6,63),(true,7,127),(true,8,255)] fo (by repeat first | exact Pl.aB | refine Pl.lS ?_ | refine Pl.oh ?_ | refine Pl.yj ?_) (by kernel_rfl) (hE.below (Ext.drew (Ext.refl W))) ?_
     have hB2:=Ext.drew (Ext.refl W)
     have hE2:=hE.below hB2
     generalize W.drew=W2 at *
     intro hS2
     refine Pl.aA hS2 rfl rfl rfl rfl rfl ?_
     refine Pl.aA hS2 rfl rfl rfl rfl rfl ?_
     refine aS hS2 rfl rfl rfl rfl rfl rfl (hi1) ?_
     refine Pl.aX hS2 rfl rfl rfl rfl rfl (fun X hX=>hl1 X hX) ?_
     refine Pl.aA hS2 rfl rfl rfl rfl rfl ?_
     refine Pl.aA hS2 rfl rfl rfl rfl rfl ?_
     refine aS hS2 rfl rfl rfl rfl rfl rfl (hi2) ?_
     refine Pl.aX hS2 rfl rfl rfl rfl rfl (fun X hX=>hl2 X hX) ?_
     refine Pl.aN (v:=.bool bb) hS2 rfl rfl rfl rfl rfl rfl (fun X=>aiI hbb X) ?_
     refine Pl.aj ?_
     cases bb
     · have heq:lb (limbs n) i=lb (limbs m) i:=by simpa using hbb
       repeat refine Pl.ay ?_
       refine Pl.bn rfl ?_
       repeat refine Pl.ay ?_
       refine Pl.bM ?_
       refine Pl.dG ?_
       repeat refine Pl.ay ?_
       refine Pl.ak (by kernel_rfl) ?_
       refine Pl.aN (v:=.int .i64 ((i+1:Nat):Int)) trivial rfl rfl rfl rfl rfl rfl (fun X=>nM (by omega) (by omega) (by omega) X) ?_
       refine Pl.aA trivial rfl rfl rfl rfl rfl ?_
       refine Pl.aj ?_
       exact Pl.jY [(0,.slice Aa (limbs n).length ca),(1,.slice Ab (limbs m).length cb),(12,.int .i64 ((limbs n).length:Int)),(13,.int .i64 (((i+1:Nat):Int):Int))] (Pl.aa rfl (Pl.aa rfl (Pl.aa rfl (Pl.aa rfl Pl.aI)))) (show (limbs n).length-(i+1)<(limbs n).length-i by omega) ⟨i+1,rfl,by omega,fun j hj2=>(Nat.lt_succ_iff_lt_or_eq.1 hj2).elim (hj j) (fun h=>by rw [h];exact heq),hE2,rfl⟩
     · have hne:lb (limbs n) i≠lb (limbs m) i:=by simpa using hbb
       repeat refine Pl.ay ?_
       refine Pl.cK rfl ?_
       repeat refine Pl.ay ?_
       refine Pl.ak (by kernel_rfl) ?_
       refine Pl.aF trivial rfl rfl rfl rfl rfl ?_
       refine Pl.aj ?_
       repeat refine Pl.ay ?_
       refine Pl.zY fun a2 ha2=>?_
       repeat first | refine Pl.JF ?_ | refine Pl.Ni ?_ | refine Pl.uf ?_
       exact Pl.TE ha2 rfl rfl ⟨by rw [decide_eq_false (fun e=>hne (by rw [e]))],hE2⟩
   · repeat refine Pl.ay ?_
     refine Pl.ak (by kernel_rfl) ?_
     refine Pl.aN (v:=.bool false) trivial rfl rfl rfl rfl rfl rfl (fun X=>jc (decide_eq_false (by omega)) X) ?_
     refine Pl.aj ?_
     repeat refine Pl.ay ?_
     refine Pl.bn rfl ?_
     repeat refine Pl.ay ?_
     refine Pl.lD ?_
     repeat refine Pl.ay ?_
     refine Pl.ak (by kernel_rfl) ?_
     refine Pl.aF trivial rfl rfl rfl rfl rfl ?_
     refine Pl.aj ?_
     exact Pl.bI rfl rfl ⟨by rw [decide_eq_true (Wd hl fun j h=>hj j (by omega))],hE⟩
 · repeat refine Pl.ay ?_
   refine Pl.ak (by kernel_rfl) ?_
   refine Pl.aA trivial rfl rfl rfl rfl rfl ?_
   refine eT trivial rfl rfl rfl rfl rfl ?_
   refine Pl.aA trivial rfl rfl rfl rfl rfl ?_
   refine eT trivial rfl rfl rfl rfl rfl ?_
   refine Pl.aN (v:=.bool true) trivial rfl rfl rfl rfl rfl rfl (fun X=>afZ (by simp;omega) X) ?_
   refine Pl.aj ?_
   repeat refine Pl.ay ?_
   refine Pl.cK rfl ?_
   repeat refine Pl.ay ?_
   refine Pl.ak (by kernel_rfl) ?_
   refine Pl.aF trivial rfl rfl rfl rfl rfl ?_
   refine Pl.aj ?_
   exact Pl.bI rfl rfl ⟨by rw [decide_eq_false (fun e=>hl (by rw [e]))],Ext.refl w⟩
end Go.Proofs.YtfhcmggpojhegaaGreatDoor
namespace Go.Proofs.YtfhcmggpojhegaaGreatDoor
open Go.RowKit
set_option linter.all false
set_option maxRecDepth 100000
set_option maxHeartbeats 8000000
namespace EGH
set_option linter.all false
set_option maxRecDepth 100000
set_option maxHeartbeats 8000000
theorem atJ (u:Array Value) (X:World):(callFunc 33 u).run Tryz.prog X = .ok (.enter 33 u) X:=Pl.enters Tryz.func33 (by kernel_rfl) rfl u X
theorem jm (u:Array Value) (X:World):(callFunc 35 u).run Tryz.prog X = .ok (.enter 35 u) X:=Pl.enters Tryz.func35 (by kernel_rfl) rfl u X
theorem anX (u:Array Value) (X:World):(callFunc 18 u).run Tryz.prog X = .ok (.enter 18 u) X:=Pl.enters Tryz.func18 (by kernel_rfl) rfl u X
theorem anY (u:Array Value) (X:World):(callFunc 78 u).run Tryz.prog X = .ok (.enter 78 u) X:=Pl.enters Tryz.func78 (by kernel_rfl) rfl u X
theorem Ra (u:Array Value) (X:World):(callFunc 84 u).run Tryz.prog X = .ok (.enter 84 u) X:=Pl.enters Tryz.func84 (by kernel_rfl) rfl u X
end EGH
open EGH
theorem Rb (w:World) (va vb:Value) (n m:Nat) (ha:Un w va n) (hb:Un w vb m) (hln:Sn n 900) (h:n=m):Calls Tryz.prog 78 #[va,vb] w fun e w'=>e = .returned (.bool true)∧Ext w w' :=
 (wF w va vb n m ha hb (hln.le (by decide))).mono fun e w' h2=>by rw [decide_eq_true h] at h2;exact h2
theorem Re (w:World) (va vb:Value) (n m:Nat) (ha:Un w va n) (hb:Un w vb m) (hln:Sn n 900) (h:n≠m):Calls Tryz.prog 78 #[va,vb] w fun e w'=>e = .returned (.bool false)∧Ext w w' :=
 (wF w va vb n m ha hb (hln.le (by decide))).mono fun e w' h2=>by rw [decide_eq_false h] at h2;exact h2
theorem xA (w:World) (CE LW:Value) (a m:Nat) (LA:Un w CE a) (h_m:Un w LW m) (hla:Sn a 90) (hlm:Sn m 90) (hm0:m=0) :
  Calls Tryz.prog 30 #[CE,LW] w fun e w'=>e = .returned (.tuple #[.slice none 0 0,.int .i64 4])∧Ext w w':=by
 refine Pl.aZ (n:=44) (vs:=[CE,LW]) Tryz.func30 rfl (by kernel_rfl) (by simp) ?_
 refine Pl.ay ?_
 refine Pl.ak (by kernel_rfl) ?_
 refine Pl.aF trivial rfl rfl rfl rfl rfl ?_
 refine Pl.aF trivial rfl rfl rfl rfl rfl ?_
 refine Pl.aj ?_
 refine Pl.ay ?_
 refine Pl.ak (by kernel_rfl) ?_
 refine Pl.aA trivial rfl rfl rfl rfl rfl ?_
 refine Pl.aA trivial rfl rfl rfl rfl rfl ?_
 refine Pl.az rfl rfl rfl rfl rfl anX ?_
 refine Calls.mono (F8 _ _ _ a LA (hm0 ▸ h_m) (Sn.le hla (by decide))) ?_
 rintro e w1 ⟨rfl,hB1⟩
 refine ⟨_,rfl,trivial,?_⟩
 refine Pl.aA trivial rfl rfl rfl rfl rfl ?_
 refine Pl.aL trivial rfl rfl rfl rfl rfl rfl ?_
 refine Pl.aL trivial rfl rfl rfl rfl rfl rfl ?_
 refine Pl.aL trivial rfl rfl rfl rfl rfl rfl ?_
 refine Pl.aF trivial rfl rfl rfl rfl rfl ?_
 refine Pl.aF trivial rfl rfl rfl rfl rfl ?_
 refine Pl.aF trivial rfl rfl rfl rfl rfl ?_
 refine Pl.aj ?_
 refine Pl.ay ?_
 refine Pl.ay ?_
 refine Pl.ak (by kernel_rfl) ?_
 refine Pl.aA trivial rfl rfl rfl rfl rfl ?_
 refine Pl.aN (v:=(.bool true)) trivial rfl rfl rfl rfl rfl rfl (fun X=>by go_simp) ?_
 refine Pl.aj ?_
 refine Pl.cK rfl ?_
 refine Pl.ay ?_
 refine Pl.ak (by kernel_rfl) ?_
 refine Pl.aF trivial rfl rfl rfl rfl rfl ?_
 refine Pl.aF trivial rfl rfl rfl rfl rfl ?_
 refine Pl.aj ?_
 refine Pl.jy rfl rfl rfl ?_
 exact ⟨rfl,hB1⟩
theorem J2 (w:World) (CE LW:Value) (a m:Nat) (LA:Un w CE a) (h_m:Un w LW m) (hla:Sn a 90) (hlm:Sn m 90) (hm0:m≠0) :
  Calls Tryz.prog 30 #[CE,LW] w fun e w'=>(Nat.gcd (a%m) m≠1∧e = .returned (.tuple #[.slice none 0 0,.int .i64 4])∨Nat.gcd (a%m) m=1∧∃ z,e = .returned (.tuple #[z,.int .i64 0])∧Un w' z ((cf (quo (a%m) m) 1 0).1%(m:Int)).natAbs)∧Ext w w':=by
 refine Pl.aZ (n:=44) (vs:=[CE,LW]) Tryz.func30 rfl (by kernel_rfl) (by simp) ?_
 refine Pl.ay ?_
 refine Pl.ak (by kernel_rfl) ?_
 refine Pl.aF trivial rfl rfl rfl rfl rfl ?_
 refine Pl.aF trivial rfl rfl rfl rfl rfl ?_
 refine Pl.aj ?_
 refine Pl.ay ?_
 refine Pl.ak (by kernel_rfl) ?_
 refine Pl.aA trivial rfl rfl rfl rfl rfl ?_
 refine Pl.aA trivial rfl rfl rfl rfl rfl ?_
 refine Pl.az rfl rfl rfl rfl rfl anX ?_
 refine Calls.mono (iI _ _ _ a m _ _ LA h_m (Sn.le hla (by decide)) (Sn.le hlm (by decide)) hm0 rfl rfl) ?_
 rintro e w1 ⟨⟨ar9,Ao,rfl,amd,Ja⟩,hB1⟩
 refine ⟨_,rfl,trivial,?_⟩
 have ahn:Sn (a/m) 90:=Sn.div hla
 have aho:Sn (a%m) 90:=Sn.mod hlm hm0
 refine Pl.aA trivial rfl rfl rfl rfl rfl ?_
 refine Pl.aL trivial rfl rfl rfl rfl rfl rfl ?_
 refine Pl.aL trivial rfl rfl rfl rfl rfl rfl ?_
 refine Pl.aL trivial rfl rfl rfl rfl rfl rfl ?_
 refine Pl.aF trivial rfl rfl rfl rfl rfl ?_
 refine Pl.aF trivial rfl rfl rfl rfl rfl ?_
 refine Pl.aF trivial rfl rfl rfl rfl rfl ?_
 refine Pl.aj ?_
 refine Pl.ay ?_
 refine Pl.ay ?_
 refine Pl.ak (by kernel_rfl) ?_
 refine Pl.aA trivial rfl rfl rfl rfl rfl ?_
 refine Pl.aN (v:=(.bool false)) trivial rfl rfl rfl rfl rfl rfl (fun X=>by go_simp) ?_
 refine Pl.aj ?_
 refine Pl.bn rfl ?_
 refine Pl.bM ?_
 refine Pl.ay ?_
 refine Pl.ak (by kernel_rfl) ?_
 refine Pl.aA trivial rfl rfl rfl rfl rfl ?_
 refine Pl.aA trivial rfl rfl rfl rfl rfl ?_
 have C9:=Un.below h_m hB1
 refine Pl.az rfl rfl rfl rfl rfl atJ ?_
 refine Calls.mono (wh _ _ _ (a%m) m Ja C9 (Sn.mod hlm hm0) hlm hm0) ?_
 rintro e w2 ⟨lH,CF,Et,rfl,uB,nC,LX,hB2⟩
 refine ⟨_,rfl,trivial,?_⟩
 have Er:Sn (Nat.gcd (a%m) m) 90:=Lx (Sn.mod hlm hm0) hlm
 have jJ:Sz (cf (quo (a%m) m) 1 0).1 90:=JV hlm
 have aem:Sz (cf (quo (a%m) m) 0 1).1 90:=rQ (Sn.mod hlm hm0)
 refine Pl.aA trivial rfl rfl rfl rfl rfl ?_
 refine Pl.aL trivial rfl rfl rfl rfl rfl rfl ?_
 refine Pl.aL trivial rfl rfl rfl rfl rfl rfl ?_
 refine Pl.aL trivial rfl rfl rfl rfl rfl rfl ?_
 refine bW rfl rfl rfl rfl (fun _ _=>trivial) ?_
 intro N7 w3 hB3 uD i_7
 refine bW rfl rfl rfl rfl (fun _ _=>trivial) ?_
 intro N8 w4 hB4 GG i_8
 refine Pl.aF trivial rfl rfl rfl rfl rfl ?_
 obtain ⟨sZ,tq,tu,tC,rfl⟩:=Zn.sh nC
 have aiJ:=Ib.ext i_7 hB4
 refine lG rfl rfl rfl rfl rfl rfl aiJ (fun _ _=>trivial) ?_
 intro w5 QS ad6 Zv I_5
 have dJ:=QS _ (Ext.below hB3 hB4) (Nat.le_trans (Below.size (Ext.refl w2)) uD)
 have aiK:=Zv _ _ _ (Nat.ne_of_gt (Nat.lt_of_lt_of_le (Ib.ext i_7 (Ext.refl w3)).1 GG)) i_8
 obtain ⟨aAi,aAj,aAk,aAl,rfl⟩:=Zn.sh LX
 refine lG rfl rfl rfl rfl rfl rfl aiK (fun _ _=>trivial) ?_
 intro w6 atK aAm atL I_6
 have dV:=atK _ dJ (Nat.le_trans (Below.size hB3) GG)
 have aiL:=atL _ _ _ (Nat.ne_of_lt (Nat.lt_of_lt_of_le (Ib.ext i_7 (Ext.refl w3)).1 GG)) I_5
 refine Pl.aj ?_
 refine Pl.ay ?_
 refine Pl.ay ?_
 by_cases hg:Nat.gcd (a%m) m=1
 · refine Pl.ak (by kernel_rfl) ?_
   refine Pl.aA trivial rfl rfl rfl rfl rfl ?_
   refine AY (n:=1) (by decide) rfl rfl rfl rfl rfl (fun _ _=>trivial) ?_
   intro anZ w7 dP Rf
   have Z9:=U.one Rf
   have uE:=Un.below uB (Ext.below dV dP)
   refine Pl.az rfl rfl rfl rfl rfl anY ?_
   refine Calls.mono (Rb _ _ _ (Nat.gcd (a%m) m) 1 uE Z9 (Sn.le Er (by decide)) hg) ?_
   rintro e w8 ⟨rfl,dU⟩
   refine ⟨_,rfl,trivial,?_⟩
   refine Pl.ng (v:=(.bool false)) trivial rfl rfl rfl rfl rfl (fun X=>rfl) ?_
   refine Pl.aj ?_
   refine Pl.bn rfl ?_
   refine Pl.bM ?_
   refine Pl.ay ?_
   refine Pl.j6 (S:=fun X=>Ext w8 X) fo (Ext.drew (Ext.refl _)) ?_
   generalize w8.drew=w9
   intro gW
   have nK:=gW
   refine Pl.oN 3 1023 (fun l' w'=>∃ (Eu:Nat) (Ev:Nat) (aaa:Value) (aab:Value),l'=[(4,.slice none 0 0),(11,.pointer (some ⟨Eu,0,none⟩)),(12,.pointer (some ⟨Ev,0,none⟩)),(39,aaa),(40,aab),(41,(.int .i64 0))]∧Ext w8 w'∧w8.heap.size≤Eu∧Ib w' Eu false (.slice none 0 0)∧w8.heap.size≤Ev∧Ib w' Ev false (.slice none 0 0)∧Zn w' aaa ((cf (quo (a%m) m) 1 0).1/((m:Nat):Int))∧Zn w' aab ((cf (quo (a%m) m) 1 0).1%((m:Nat):Int))∧Eu≠Ev) ?_ ?_
   rotate_left
   · intro wG
     refine Pl.oN 5 255 (fun l' w'=>∃ (aaa:Value) (aab:Value),l'=[(4,.slice none 0 0),(39,aaa),(40,aab),(41,(.int .i64 0))]∧Ext w8 w'∧Zn w' aaa ((cf (quo (a%m) m) 1 0).1/((m:Nat):Int))∧Zn w' aab ((cf (quo (a%m) m) 1 0).1%((m:Nat):Int))) ?_ ?_
     · rintro _ aAn ⟨xB,xC,rfl,Hl,J3,J4⟩
       have Uf:=Hl
       have iE:Sz ((m:Nat):Int) 90:=Sn.sz hlm
       have iE:Sz ((m:Nat):Int) 90:=Sn.sz hlm
       have an0:Sz ((cf (quo (a%m) m) 1 0).1/((m:Nat):Int)) 90:=Sz.div jJ
       have an1:Sz ((cf (quo (a%m) m) 1 0).1%((m:Nat):Int)) 90:=Sz.mod iE (by omega)
       refine Pl.bS [8,9] 4 (by kernel_rfl) (by kernel_rfl) (by kernel_rfl) (Pl.aC ?_ (Pl.aC ?_ Pl.aR))
       · refine bW rfl rfl rfl rfl (fun _ k=>Ext.below Uf k) ?_
         intro aac atM wH Rh Oo
         have Oq:=Ext.below Uf wH
         refine Pl.aj ?_
         refine Pl.aM [(false,9,511)] 1023 3 Pl.aB (by kernel_rfl) (by kernel_rfl) (by kernel_rfl) ?_
         refine bW rfl rfl rfl rfl (fun _ k=>Ext.below Oq k) ?_
         intro aad atN wI Ho aae
         have an2:=Ext.below Oq wI
         refine Pl.aj ?_
         have zm:=Ib.ext Oo wI
         have qJ:=Zn.below J3 (Ext.below wH wI)
         have qK:=Zn.below J4 (Ext.below wH wI)
         exact Pl.bN [(4,.slice none 0 0),(11,.pointer (some ⟨aac,0,none⟩)),(12,.pointer (some ⟨aad,0,none⟩)),(39,xB),(40,xC),(41,(.int .i64 0))] (Pl.aa rfl (Pl.aa rfl (Pl.aa rfl (Pl.aa rfl (Pl.aa rfl (Pl.aa rfl Pl.aI)))))) (wG _ _ ⟨aac,aad,xB,xC,rfl,(Ext.below Hl (Ext.below wH wI)),(Nat.le_trans (Below.size Hl) Rh),zm,(Nat.le_trans (Below.size (Ext.below Hl wH)) Ho),aae,qJ,qK,(Nat.ne_of_lt (Nat.lt_of_lt_of_le (Oo).1 Ho))⟩)
       · refine bW rfl rfl rfl rfl (fun _ k=>Ext.below Uf k) ?_
         intro aac atM wH Rh Oo
         have Oq:=Ext.below Uf wH
         refine Pl.aj ?_
         refine Pl.aM [(false,8,767)] 1023 3 Pl.aB (by kernel_rfl) (by kernel_rfl) (by kernel_rfl) ?_
         refine bW rfl rfl rfl rfl (fun _ k=>Ext.below Oq k) ?_
         intro aad atN wI Ho aae
         have an2:=Ext.below Oq wI
         refine Pl.aj ?_
         have zm:=Ib.ext Oo wI
         have qJ:=Zn.below J3 (Ext.below wH wI)
         have qK:=Zn.below J4 (Ext.below wH wI)
         exact Pl.bN [(4,.slice none 0 0),(11,.pointer (some ⟨aad,0,none⟩)),(12,.pointer (some ⟨aac,0,none⟩)),(39,xB),(40,xC),(41,(.int .i64 0))] (Pl.aa rfl (Pl.aa rfl (Pl.aa rfl (Pl.aa rfl (Pl.aa rfl (Pl.aa rfl Pl.aI)))))) (wG _ _ ⟨aad,aac,xB,xC,rfl,(Ext.below Hl (Ext.below wH wI)),(Nat.le_trans (Below.size (Ext.below Hl wH)) Ho),aae,(Nat.le_trans (Below.size Hl) Rh),zm,qJ,qK,(Nat.ne_of_gt (Nat.lt_of_lt_of_le (Oo).1 Ho))⟩)
     intro an3
     refine Pl.oN 9 263 (fun l' w'=>∃ (Eu:Nat) (Ot:Value),l'=[(4,.slice none 0 0),(11,.pointer (some ⟨Eu,0,none⟩)),(35,.agg #[.bool sZ,.slice tq tu tC]),(37,Ot)]∧Ext w8 w'∧w8.heap.size≤Eu∧Ib w' Eu false (.slice none 0 0)∧Zn w' Ot ((m:Nat):Int)) ?_ ?_
     · rintro _ aAo ⟨ET,akC,rfl,Hq,J5,Bh,J6⟩
       have aaf:=Hq
       have iE:Sz ((m:Nat):Int) 90:=Sn.sz hlm
       have iE:Sz ((m:Nat):Int) 90:=Sn.sz hlm
       refine Pl.bS [3,9] 8 (by kernel_rfl) (by kernel_rfl) (by kernel_rfl) (Pl.aC ?_ (Pl.aC ?_ Pl.aR))
       · have We:=Zn.below nC (Ext.below dV (Ext.below dP (Ext.below dU Hq)))
         refine Pl.az rfl rfl rfl rfl rfl Ra ?_
         refine Calls.mono (jQ _ _ _ ((cf (quo (a%m) m) 1 0).1) ((m:Nat):Int) We J6 (Sz.le jJ (by decide)) (Sz.le iE (by decide)) (by omega) _ _ rfl rfl) ?_
         rintro e atO ⟨⟨aag,aah,rfl,aiM,aiN⟩,wJ⟩
         have Bi:=Ext.below aaf wJ
         refine ⟨_,rfl,Bi,?_⟩
         have atP:Sz ((cf (quo (a%m) m) 1 0).1/((m:Nat):Int)) 90:=Sz.div jJ
         have atQ:Sz ((cf (quo (a%m) m) 1 0).1%((m:Nat):Int)) 90:=Sz.mod iE (by omega)
         refine Pl.aj ?_
         refine Pl.aM [(true,4,271),(true,5,287),(true,6,319),(true,7,383),(false,9,511)] 1023 3 Pl.aB (by kernel_rfl) (by kernel_rfl) (by kernel_rfl) ?_
         refine Pl.aA Bi rfl rfl rfl rfl rfl ?_
         refine Pl.aL Bi rfl rfl rfl rfl rfl rfl ?_
         refine Pl.aL Bi rfl rfl rfl rfl rfl rfl ?_
         refine Pl.aL Bi rfl rfl rfl rfl rfl rfl ?_
         refine bW rfl rfl rfl rfl (fun _ k=>Ext.below Bi k) ?_
         intro an4 atS yz aai an5
         have J7:=Ext.below Bi yz
         refine Pl.aj ?_
         have rU:=Ib.ext Bh (Ext.below wJ yz)
         have Ou:=Zn.below aiM yz
         have Ov:=Zn.below aiN yz
         exact Pl.bN [(4,.slice none 0 0),(11,.pointer (some ⟨ET,0,none⟩)),(12,.pointer (some ⟨an4,0,none⟩)),(39,aag),(40,aah),(41,(.int .i64 0))] (Pl.aa rfl (Pl.aa rfl (Pl.aa rfl (Pl.aa rfl (Pl.aa rfl (Pl.aa rfl Pl.aI)))))) (wG _ _ ⟨ET,an4,aag,aah,rfl,(Ext.below Hq (Ext.below wJ yz)),J5,rU,(Nat.le_trans (Below.size (Ext.below Hq wJ)) aai),an5,Ou,Ov,(Nat.ne_of_lt (Nat.lt_of_lt_of_le (Ib.ext Bh wJ).1 aai))⟩)
       · refine bW rfl rfl rfl rfl (fun _ k=>Ext.below aaf k) ?_
         intro an6 atO wJ aaj an7
         have Bi:=Ext.below aaf wJ
         refine Pl.aj ?_
         refine Pl.aM [(false,3,775),(true,4,783),(true,5,799),(true,6,831),(true,7,895)] 1023 3 Pl.aB (by kernel_rfl) (by kernel_rfl) (by kernel_rfl) ?_
         have Wi:=Zn.below nC (Ext.below dV (Ext.below dP (Ext.below dU (Ext.below Hq wJ))))
         have Hr:=Zn.below J6 wJ
         refine Pl.az rfl rfl rfl rfl rfl Ra ?_
         refine Calls.mono (jQ _ _ _ ((cf (quo (a%m) m) 1 0).1) ((m:Nat):Int) Wi Hr (Sz.le jJ (by decide)) (Sz.le iE (by decide)) (by omega) _ _ rfl rfl) ?_
         rintro e atS ⟨⟨aak,aal,rfl,aiO,aiP⟩,yz⟩
         have J7:=Ext.below Bi yz
         refine ⟨_,rfl,J7,?_⟩
         have atT:Sz ((cf (quo (a%m) m) 1 0).1/((m:Nat):Int)) 90:=Sz.div jJ
         have atU:Sz ((cf (quo (a%m) m) 1 0).1%((m:Nat):Int)) 90:=Sz.mod iE (by omega)
         refine Pl.aA J7 rfl rfl rfl rfl rfl ?_
         refine Pl.aL J7 rfl rfl rfl rfl rfl rfl ?_
         refine Pl.aL J7 rfl rfl rfl rfl rfl rfl ?_
         refine Pl.aL J7 rfl rfl rfl rfl rfl rfl ?_
         refine Pl.aj ?_
         have rU:=Ib.ext Bh (Ext.below wJ yz)
         have Rj:=Ib.ext an7 yz
         exact Pl.bN [(4,.slice none 0 0),(11,.pointer (some ⟨ET,0,none⟩)),(12,.pointer (some ⟨an6,0,none⟩)),(39,aak),(40,aal),(41,(.int .i64 0))] (Pl.aa rfl (Pl.aa rfl (Pl.aa rfl (Pl.aa rfl (Pl.aa rfl (Pl.aa rfl Pl.aI)))))) (wG _ _ ⟨ET,an6,aak,aal,rfl,(Ext.below Hq (Ext.below wJ yz)),J5,rU,(Nat.le_trans (Below.size Hq) aaj),Rj,aiO,aiP,(Nat.ne_of_lt (Nat.lt_of_lt_of_le (Bh).1 aaj))⟩)
     intro af1
     refine Pl.oN 9 519 (fun l' w'=>∃ (Ev:Nat) (Ot:Value),l'=[(4,.slice none 0 0),(12,.pointer (some ⟨Ev,0,none⟩)),(35,.agg #[.bool sZ,.slice tq tu tC]),(37,Ot)]∧Ext w8 w'∧w8.heap.size≤Ev∧Ib w' Ev false (.slice none 0 0)∧Zn w' Ot ((m:Nat):Int)) ?_ ?_
     · rintro _ aAp ⟨EU,akD,rfl,Ht,J8,Bj,J9⟩
       have aam:=Ht
       have iE:Sz ((m:Nat):Int) 90:=Sn.sz hlm
       have iE:Sz ((m:Nat):Int) 90:=Sn.sz hlm
       refine Pl.bS [3,8] 8 (by kernel_rfl) (by kernel_rfl) (by kernel_rfl) (Pl.aC ?_ (Pl.aC ?_ Pl.aR))
       · have Wj:=Zn.below nC (Ext.below dV (Ext.below dP (Ext.below dU Ht)))
         refine Pl.az rfl rfl rfl rfl rfl Ra ?_
         refine Calls.mono (jQ _ _ _ ((cf (quo (a%m) m) 1 0).1) ((m:Nat):Int) Wj J9 (Sz.le jJ (by decide)) (Sz.le iE (by decide)) (by omega) _ _ rfl rfl) ?_
         rintro e atV ⟨⟨aan,aao,rfl,aiQ,aiR⟩,wK⟩
         have Bl:=Ext.below aam wK
         refine ⟨_,rfl,Bl,?_⟩
         have atW:Sz ((cf (quo (a%m) m) 1 0).1/((m:Nat):Int)) 90:=Sz.div jJ
         have atX:Sz ((cf (quo (a%m) m) 1 0).1%((m:Nat):Int)) 90:=Sz.mod iE (by omega)
         refine Pl.aj ?_
         refine Pl.aM [(true,4,527),(true,5,543),(true,6,575),(true,7,639),(false,8,767)] 1023 3 Pl.aB (by kernel_rfl) (by kernel_rfl) (by kernel_rfl) ?_
         refine Pl.aA Bl rfl rfl rfl rfl rfl ?_
         refine Pl.aL Bl rfl rfl rfl rfl rfl rfl ?_
         refine Pl.aL Bl rfl rfl rfl rfl rfl rfl ?_
         refine Pl.aL Bl rfl rfl rfl rfl rfl rfl ?_
         refine bW rfl rfl rfl rfl (fun _ k=>Ext.below Bl k) ?_
         intro an8 atY yA aap an9
         have Ka:=Ext.below Bl yA
         refine Pl.aj ?_
         have rV:=Ib.ext Bj (Ext.below wK yA)
         have Ox:=Zn.below aiQ yA
         have Oy:=Zn.below aiR yA
         exact Pl.bN [(4,.slice none 0 0),(11,.pointer (some ⟨an8,0,none⟩)),(12,.pointer (some ⟨EU,0,none⟩)),(39,aan),(40,aao),(41,(.int .i64 0))] (Pl.aa rfl (Pl.aa rfl (Pl.aa rfl (Pl.aa rfl (Pl.aa rfl (Pl.aa rfl Pl.aI)))))) (wG _ _ ⟨an8,EU,aan,aao,rfl,(Ext.below Ht (Ext.below wK yA)),(Nat.le_trans (Below.size (Ext.below Ht wK)) aap),an9,J8,rV,Ox,Oy,(Nat.ne_of_gt (Nat.lt_of_lt_of_le (Ib.ext Bj wK).1 aap))⟩)
       · refine bW rfl rfl rfl rfl (fun _ k=>Ext.below aam k) ?_
         intro an' atV wK aaq aoa
         have Bl:=Ext.below aam wK
         refine Pl.aj ?_
         refine Pl.aM [(false,3,775),(true,4,783),(true,5,799),(true,6,831),(true,7,895)] 1023 3 Pl.aB (by kernel_rfl) (by kernel_rfl) (by kernel_rfl) ?_
         have Wl:=Zn.below nC (Ext.below dV (Ext.below dP (Ext.below dU (Ext.below Ht wK))))
         have Hu:=Zn.below J9 wK
         refine Pl.az rfl rfl rfl rfl rfl Ra ?_
         refine Calls.mono (jQ _ _ _ ((cf (quo (a%m) m) 1 0).1) ((m:Nat):Int) Wl Hu (Sz.le jJ (by decide)) (Sz.le iE (by decide)) (by omega) _ _ rfl rfl) ?_
         rintro e atY ⟨⟨aar,aas,rfl,aiS,aiT⟩,yA⟩
         have Ka:=Ext.below Bl yA
         refine ⟨_,rfl,Ka,?_⟩
         have atZ:Sz ((cf (quo (a%m) m) 1 0).1/((m:Nat):Int)) 90:=Sz.div jJ
         have at0:Sz ((cf (quo (a%m) m) 1 0).1%((m:Nat):Int)) 90:=Sz.mod iE (by omega)
         refine Pl.aA Ka rfl rfl rfl rfl rfl ?_
         refine Pl.aL Ka rfl rfl rfl rfl rfl rfl ?_
         refine Pl.aL Ka rfl rfl rfl rfl rfl rfl ?_
         refine Pl.aL Ka rfl rfl rfl rfl rfl rfl ?_
         refine Pl.aj ?_
         have Rk:=Ib.ext aoa yA
         have rV:=Ib.ext Bj (Ext.below wK yA)
         exact Pl.bN [(4,.slice none 0 0),(11,.pointer (some ⟨an',0,none⟩)),(12,.pointer (some ⟨EU,0,none⟩)),(39,aar),(40,aas),(41,(.int .i64 0))] (Pl.aa rfl (Pl.aa rfl (Pl.aa rfl (Pl.aa rfl (Pl.aa rfl (Pl.aa rfl Pl.aI)))))) (wG _ _ ⟨an',EU,aar,aas,rfl,(Ext.below Ht (Ext.below wK yA)),(Nat.le_trans (Below.size Ht) aaq),Rk,J8,rV,aiS,aiT,(Nat.ne_of_gt (Nat.lt_of_lt_of_le (Bj).1 aaq))⟩)
     intro af2
     refine Pl.oN 10 7 (fun l' w'=>∃ (Ot:Value),l'=[(4,.slice none 0 0),(35,.agg #[.bool sZ,.slice tq tu tC]),(37,Ot)]∧Ext w8 w'∧Zn w' Ot ((m:Nat):Int)) ?_ ?_
     · rintro _ ad9 ⟨xD,rfl,iw,Da⟩
       have nG:=iw
       have iE:Sz ((m:Nat):Int) 90:=Sn.sz hlm
       refine Pl.bS [3,8,9] 9 (by kernel_rfl) (by kernel_rfl) (by kernel_rfl) (Pl.aC ?_ (Pl.aC ?_ (Pl.aC ?_ Pl.aR)))
       · have Wm:=Zn.below nC (Ext.below dV (Ext.below dP (Ext.below dU iw)))
         refine Pl.az rfl rfl rfl rfl rfl Ra ?_
         refine Calls.mono (jQ _ _ _ ((cf (quo (a%m) m) 1 0).1) ((m:Nat):Int) Wm Da (Sz.le jJ (by decide)) (Sz.le iE (by decide)) (by omega) _ _ rfl rfl) ?_
         rintro e NY ⟨⟨af3,af4,rfl,aob,aoc⟩,gB⟩
         have iM:=Ext.below nG gB
         refine ⟨_,rfl,iM,?_⟩
         have an0:Sz ((cf (quo (a%m) m) 1 0).1/((m:Nat):Int)) 90:=Sz.div jJ
         have an1:Sz ((cf (quo (a%m) m) 1 0).1%((m:Nat):Int)) 90:=Sz.mod iE (by omega)
         refine Pl.aj ?_
         refine Pl.aM [(true,4,15),(true,5,31),(true,6,63),(true,7,127)] 255 5 Pl.aB (by kernel_rfl) (by kernel_rfl) (by kernel_rfl) ?_
         refine Pl.aA iM rfl rfl rfl rfl rfl ?_
         refine Pl.aL iM rfl rfl rfl rfl rfl rfl ?_
         refine Pl.aL iM rfl rfl rfl rfl rfl rfl ?_
         refine Pl.aL iM rfl rfl rfl rfl rfl rfl ?_
         refine Pl.aj ?_
         exact Pl.bN [(4,.slice none 0 0),(39,af3),(40,af4),(41,(.int .i64 0))] (Pl.aa rfl (Pl.aa rfl (Pl.aa rfl (Pl.aa rfl Pl.aI)))) (an3 _ _ ⟨af3,af4,rfl,(Ext.below iw gB),aob,aoc⟩)
       · refine bW rfl rfl rfl rfl (fun _ k=>Ext.below nG k) ?_
         intro N62 NY gB aat aiU
         have iM:=Ext.below nG gB
         refine Pl.aj ?_
         have qL:=Zn.below Da gB
         exact Pl.bN [(4,.slice none 0 0),(11,.pointer (some ⟨N62,0,none⟩)),(35,.agg #[.bool sZ,.slice tq tu tC]),(37,xD)] (Pl.aa rfl (Pl.aa rfl (Pl.aa rfl (Pl.aa rfl Pl.aI)))) (af1 _ _ ⟨N62,xD,rfl,(Ext.below iw gB),(Nat.le_trans (Below.size iw) aat),aiU,qL⟩)
       · refine bW rfl rfl rfl rfl (fun _ k=>Ext.below nG k) ?_
         intro N62 NY gB aat aiU
         have iM:=Ext.below nG gB
         refine Pl.aj ?_
         have qL:=Zn.below Da gB
         exact Pl.bN [(4,.slice none 0 0),(12,.pointer (some ⟨N62,0,none⟩)),(35,.agg #[.bool sZ,.slice tq tu tC]),(37,xD)] (Pl.aa rfl (Pl.aa rfl (Pl.aa rfl (Pl.aa rfl Pl.aI)))) (af2 _ _ ⟨N62,xD,rfl,(Ext.below iw gB),(Nat.le_trans (Below.size iw) aat),aiU,qL⟩)
     intro hK7
     refine Pl.oN 10 259 (fun l' w'=>∃ (Eu:Nat),l'=[(4,.slice none 0 0),(11,.pointer (some ⟨Eu,0,none⟩)),(35,.agg #[.bool sZ,.slice tq tu tC]),(36,LW)]∧Ext w8 w'∧w8.heap.size≤Eu∧Ib w' Eu false (.slice none 0 0)) ?_ ?_
     · rintro _ V6 ⟨EW,rfl,lV,Kb,Hw⟩
       have GN:=lV
       refine Pl.bS [2,9] 9 (by kernel_rfl) (by kernel_rfl) (by kernel_rfl) (Pl.aC ?_ (Pl.aC ?_ Pl.aR))
       · have aau:=Un.below C9 (Ext.below hB2 (Ext.below dV (Ext.below dP (Ext.below dU lV))))
         refine Pl.az rfl rfl rfl rfl rfl jm ?_
         refine Calls.mono (eH _ _ m aau) ?_
         rintro e aii ⟨aav,rfl,aiV,jE⟩
         have kQ:=Ext.below GN jE
         refine ⟨_,rfl,kQ,?_⟩
         have at1:Sz ((m:Nat):Int) 90:=Sn.sz hlm
         refine Pl.aj ?_
         have Jg:=Ib.ext Hw jE
         exact Pl.bN [(4,.slice none 0 0),(11,.pointer (some ⟨EW,0,none⟩)),(35,.agg #[.bool sZ,.slice tq tu tC]),(37,aav)] (Pl.aa rfl (Pl.aa rfl (Pl.aa rfl (Pl.aa rfl Pl.aI)))) (af1 _ _ ⟨EW,aav,rfl,(Ext.below lV jE),Kb,Jg,aiV⟩)
       · refine bW rfl rfl rfl rfl (fun _ k=>Ext.below GN k) ?_
         intro aoe aii jE aaw aof
         have kQ:=Ext.below GN jE
         refine Pl.aj ?_
         refine Pl.aM [(false,2,771),(false,3,775),(true,4,783),(true,5,799),(true,6,831),(true,7,895)] 1023 3 Pl.aB (by kernel_rfl) (by kernel_rfl) (by kernel_rfl) ?_
         have aax:=Un.below C9 (Ext.below hB2 (Ext.below dV (Ext.below dP (Ext.below dU (Ext.below lV jE)))))
         refine Pl.az rfl rfl rfl rfl rfl jm ?_
         refine Calls.mono (eH _ _ m aax) ?_
         rintro e V7 ⟨at5,rfl,aiW,Bc⟩
         have rF:=Ext.below kQ Bc
         refine ⟨_,rfl,rF,?_⟩
         have LY:Sz ((m:Nat):Int) 90:=Sn.sz hlm
         have tK:=Zn.below nC (Ext.below dV (Ext.below dP (Ext.below dU (Ext.below lV (Ext.below jE Bc)))))
         refine Pl.az rfl rfl rfl rfl rfl Ra ?_
         refine Calls.mono (jQ _ _ _ ((cf (quo (a%m) m) 1 0).1) ((m:Nat):Int) tK aiW (Sz.le jJ (by decide)) (Sz.le LY (by decide)) (by omega) _ _ rfl rfl) ?_
         rintro e V8 ⟨⟨aay,aaz,rfl,aiX,aiY⟩,D9⟩
         have GY:=Ext.below rF D9
         refine ⟨_,rfl,GY,?_⟩
         have aiZ:Sz ((cf (quo (a%m) m) 1 0).1/((m:Nat):Int)) 90:=Sz.div jJ
         have ai0:Sz ((cf (quo (a%m) m) 1 0).1%((m:Nat):Int)) 90:=Sz.mod LY (by omega)
         refine Pl.aA GY rfl rfl rfl rfl rfl ?_
         refine Pl.aL GY rfl rfl rfl rfl rfl rfl ?_
         refine Pl.aL GY rfl rfl rfl rfl rfl rfl ?_
         refine Pl.aL GY rfl rfl rfl rfl rfl rfl ?_
         refine Pl.aj ?_
         have Jh:=Ib.ext Hw (Ext.below jE (Ext.below Bc D9))
         have Rl:=Ib.ext aof (Ext.below Bc D9)
         exact Pl.bN [(4,.slice none 0 0),(11,.pointer (some ⟨EW,0,none⟩)),(12,.pointer (some ⟨aoe,0,none⟩)),(39,aay),(40,aaz),(41,(.int .i64 0))] (Pl.aa rfl (Pl.aa rfl (Pl.aa rfl (Pl.aa rfl (Pl.aa rfl (Pl.aa rfl Pl.aI)))))) (wG _ _ ⟨EW,aoe,aay,aaz,rfl,(Ext.below lV (Ext.below jE (Ext.below Bc D9))),Kb,Jh,(Nat.le_trans (Below.size lV) aaw),Rl,aiX,aiY,(Nat.ne_of_lt (Nat.lt_of_lt_of_le (Hw).1 aaw))⟩)
     intro aog
     refine Pl.oN 10 515 (fun l' w'=>∃ (Ev:Nat),l'=[(4,.slice none 0 0),(12,.pointer (some ⟨Ev,0,none⟩)),(35,.agg #[.bool sZ,.slice tq tu tC]),(36,LW)]∧Ext w8 w'∧w8.heap.size≤Ev∧Ib w' Ev false (.slice none 0 0)) ?_ ?_
     · rintro _ aAq ⟨EX,rfl,Hy,Kc,Hz⟩
       have aaA:=Hy
       refine Pl.bS [2,8] 9 (by kernel_rfl) (by kernel_rfl) (by kernel_rfl) (Pl.aC ?_ (Pl.aC ?_ Pl.aR))
       · have aaB:=Un.below C9 (Ext.below hB2 (Ext.below dV (Ext.below dP (Ext.below dU Hy))))
         refine Pl.az rfl rfl rfl rfl rfl jm ?_
         refine Calls.mono (eH _ _ m aaB) ?_
         rintro e at6 ⟨aaC,rfl,ai1,Bo⟩
         have aaD:=Ext.below aaA Bo
         refine ⟨_,rfl,aaD,?_⟩
         have at7:Sz ((m:Nat):Int) 90:=Sn.sz hlm
         refine Pl.aj ?_
         have Ji:=Ib.ext Hz Bo
         exact Pl.bN [(4,.slice none 0 0),(12,.pointer (some ⟨EX,0,none⟩)),(35,.agg #[.bool sZ,.slice tq tu tC]),(37,aaC)] (Pl.aa rfl (Pl.aa rfl (Pl.aa rfl (Pl.aa rfl Pl.aI)))) (af2 _ _ ⟨EX,aaC,rfl,(Ext.below Hy Bo),Kc,Ji,ai1⟩)
       · refine bW rfl rfl rfl rfl (fun _ k=>Ext.below aaA k) ?_
         intro aoh at6 Bo aaE aoi
         have aaD:=Ext.below aaA Bo
         refine Pl.aj ?_
         refine Pl.aM [(false,2,771),(false,3,775),(true,4,783),(true,5,799),(true,6,831),(true,7,895)] 1023 3 Pl.aB (by kernel_rfl) (by kernel_rfl) (by kernel_rfl) ?_
         have aaF:=Un.below C9 (Ext.below hB2 (Ext.below dV (Ext.below dP (Ext.below dU (Ext.below Hy Bo)))))
         refine Pl.az rfl rfl rfl rfl rfl jm ?_
         refine Calls.mono (eH _ _ m aaF) ?_
         rintro e aAr ⟨aua,rfl,ai2,Oz⟩
         have af5:=Ext.below aaD Oz
         refine ⟨_,rfl,af5,?_⟩
         have aaG:Sz ((m:Nat):Int) 90:=Sn.sz hlm
         have Wn:=Zn.below nC (Ext.below dV (Ext.below dP (Ext.below dU (Ext.below Hy (Ext.below Bo Oz)))))
         refine Pl.az rfl rfl rfl rfl rfl Ra ?_
         refine Calls.mono (jQ _ _ _ ((cf (quo (a%m) m) 1 0).1) ((m:Nat):Int) Wn ai2 (Sz.le jJ (by decide)) (Sz.le aaG (by decide)) (by omega) _ _ rfl rfl) ?_
         rintro e aAs ⟨⟨aaH,aaI,rfl,ai3,ai4⟩,Ug⟩
         have OA:=Ext.below af5 Ug
         refine ⟨_,rfl,OA,?_⟩
         have aub:Sz ((cf (quo (a%m) m) 1 0).1/((m:Nat):Int)) 90:=Sz.div jJ
         have auc:Sz ((cf (quo (a%m) m) 1 0).1%((m:Nat):Int)) 90:=Sz.mod aaG (by omega)
         refine Pl.aA OA rfl rfl rfl rfl rfl ?_
         refine Pl.aL OA rfl rfl rfl rfl rfl rfl ?_
         refine Pl.aL OA rfl rfl rfl rfl rfl rfl ?_
         refine Pl.aL OA rfl rfl rfl rfl rfl rfl ?_
         refine Pl.aj ?_
         have Rm:=Ib.ext aoi (Ext.below Oz Ug)
         have Jj:=Ib.ext Hz (Ext.below Bo (Ext.below Oz Ug))
         exact Pl.bN [(4,.slice none 0 0),(11,.pointer (some ⟨aoh,0,none⟩)),(12,.pointer (some ⟨EX,0,none⟩)),(39,aaH),(40,aaI),(41,(.int .i64 0))] (Pl.aa rfl (Pl.aa rfl (Pl.aa rfl (Pl.aa rfl (Pl.aa rfl (Pl.aa rfl Pl.aI)))))) (wG _ _ ⟨aoh,EX,aaH,aaI,rfl,(Ext.below Hy (Ext.below Bo (Ext.below Oz Ug))),(Nat.le_trans (Below.size Hy) aaE),Rm,Kc,Jj,ai3,ai4,(Nat.ne_of_gt (Nat.lt_of_lt_of_le (Hz).1 aaE))⟩)
     intro aoj
     refine Pl.aM [(true,0,0),(true,1,1)] 3 11 Pl.aB (by kernel_rfl) (by kernel_rfl) (by kernel_rfl) ?_
     have ai5:=Ib.ext aiL (Ext.below dP dU)
     refine Pl.aX nK rfl rfl rfl rfl rfl (fun X hX=>Ib.load (Ib.ext ai5 hX)) ?_
     refine Pl.aA nK rfl rfl rfl rfl rfl ?_
     refine Pl.aj ?_
     refine Pl.bS [2,8,9] 10 (by kernel_rfl) (by kernel_rfl) (by kernel_rfl) (Pl.aC ?_ (Pl.aC ?_ (Pl.aC ?_ Pl.aR)))
     · have ai6:=Un.below C9 (Ext.below hB2 (Ext.below dV (Ext.below dP (Ext.below dU gW))))
       refine Pl.az rfl rfl rfl rfl rfl jm ?_
       refine Calls.mono (eH _ _ m ai6) ?_
       rintro e uY ⟨Ub,rfl,Gm,gy⟩
       have fQ:=Ext.below nK gy
       refine ⟨_,rfl,fQ,?_⟩
       have iE:Sz ((m:Nat):Int) 90:=Sn.sz hlm
       refine Pl.aj ?_
       exact Pl.bN [(4,.slice none 0 0),(35,.agg #[.bool sZ,.slice tq tu tC]),(37,Ub)] (Pl.aa rfl (Pl.aa rfl (Pl.aa rfl Pl.aI))) (hK7 _ _ ⟨Ub,rfl,(Ext.below gW gy),Gm⟩)
     · refine bW rfl rfl rfl rfl (fun _ k=>Ext.below nK k) ?_
       intro Xg uY gy D8 QU
       have fQ:=Ext.below nK gy
       refine Pl.aj ?_
       exact Pl.bN [(4,.slice none 0 0),(11,.pointer (some ⟨Xg,0,none⟩)),(35,.agg #[.bool sZ,.slice tq tu tC]),(36,LW)] (Pl.aa rfl (Pl.aa rfl (Pl.aa rfl (Pl.aa rfl Pl.aI)))) (aog _ _ ⟨Xg,rfl,(Ext.below gW gy),(Nat.le_trans (Below.size gW) D8),QU⟩)
     · refine bW rfl rfl rfl rfl (fun _ k=>Ext.below nK k) ?_
       intro Xg uY gy D8 QU
       have fQ:=Ext.below nK gy
       refine Pl.aj ?_
       exact Pl.bN [(4,.slice none 0 0),(12,.pointer (some ⟨Xg,0,none⟩)),(35,.agg #[.bool sZ,.slice tq tu tC]),(36,LW)] (Pl.aa rfl (Pl.aa rfl (Pl.aa rfl (Pl.aa rfl Pl.aI)))) (aoj _ _ ⟨Xg,rfl,(Ext.below gW gy),(Nat.le_trans (Below.size gW) D8),QU⟩)
   rintro _ aAt ⟨aqf,aqg,akE,akF,rfl,af6,Db,aaJ,Dc,aaK,Ke,Wo,qM⟩
   have af7:=af6
   have LY:Sz ((m:Nat):Int) 90:=Sn.sz hlm
   have aiZ:Sz ((cf (quo (a%m) m) 1 0).1/((m:Nat):Int)) 90:=Sz.div jJ
   have ai0:Sz ((cf (quo (a%m) m) 1 0).1%((m:Nat):Int)) 90:=Sz.mod LY (by omega)
   refine Pl.aM [(false,10,1023),(false,11,2047),(true,12,4095)] 8191 0 Pl.aB (by kernel_rfl) (by kernel_rfl) (by kernel_rfl) ?_
   obtain ⟨akG,akH,akI,akJ,rfl⟩:=Zn.sh Ke
   refine lG rfl rfl rfl rfl rfl rfl aaJ (fun _ T=>T _ af7 (Nat.le_trans (Below.size (Ext.refl w8)) Db)) ?_
   intro aAu aaL aaM ai7 aok
   have aol:=aaL _ af6 (Nat.le_trans (Below.size (Ext.refl w8)) Db)
   have af8:=aaL _ af7 (Nat.le_trans (Below.size (Ext.refl w8)) Db)
   have Jk:=ai7 _ _ _ (Ne.symm qM) aaK
   have H6:=aaM _ _ Ke
   have wL:=aaM _ _ Wo
   obtain ⟨akK,akL,akM,akN,rfl⟩:=Zn.sh wL
   refine lG rfl rfl rfl rfl rfl rfl Jk (fun _ T=>T _ af8 (Nat.le_trans (Below.size (Ext.refl w8)) Dc)) ?_
   intro aAv aaN aaO ai8 aom
   have aon:=aaN _ aol (Nat.le_trans (Below.size (Ext.refl w8)) Dc)
   have aoo:=aaN _ af8 (Nat.le_trans (Below.size (Ext.refl w8)) Dc)
   have aaP:=aaO _ _ H6
   have ai9:=ai8 _ _ _ qM aok
   have H7:=aaO _ _ wL
   refine Pl.aF aoo rfl rfl rfl rfl rfl ?_
   refine Pl.aj ?_
   refine Pl.uT (by kernel_rfl) ?_
   refine Pl.ay ?_
   refine Pl.ak (by kernel_rfl) ?_
   refine bL trivial rfl rfl rfl rfl rfl (aiH _) ?_
   refine Pl.aH trivial rfl rfl rfl rfl rfl (Ib.mag aom) ?_
   have H8:=Zn.mag H7
   refine Pl.aF trivial rfl rfl rfl rfl rfl ?_
   refine Pl.aF trivial rfl rfl rfl rfl rfl ?_
   refine Pl.aj ?_
   refine Pl.jy rfl rfl rfl ?_
   exact ⟨.inr ⟨hg,_,rfl,H8⟩,(Ext.below hB1 (Ext.below hB2 (Ext.below dV (Ext.below dP (Ext.below dU aon)))))⟩
 · refine Pl.ak (by kernel_rfl) ?_
   refine Pl.aA trivial rfl rfl rfl rfl rfl ?_
   refine AY (n:=1) (by decide) rfl rfl rfl rfl rfl (fun _ _=>trivial) ?_
   intro anZ w7 dP Rf
   have Z9:=U.one Rf
   have uE:=Un.below uB (Ext.below dV dP)
   refine Pl.az rfl rfl rfl rfl rfl anY ?_
   refine Calls.mono (Re _ _ _ (Nat.gcd (a%m) m) 1 uE Z9 (Sn.le Er (by decide)) hg) ?_
   rintro e w8 ⟨rfl,dU⟩
   refine ⟨_,rfl,trivial,?_⟩
   refine Pl.ng (v:=(.bool true)) trivial rfl rfl rfl rfl rfl (fun X=>rfl) ?_
   refine Pl.aj ?_
   refine Pl.cK rfl ?_
   refine Pl.ay ?_
   refine Pl.ak (by kernel_rfl) ?_
   refine Pl.aF trivial rfl rfl rfl rfl rfl ?_
   refine Pl.aF trivial rfl rfl rfl rfl rfl ?_
   refine Pl.aj ?_
   refine Pl.jy rfl rfl rfl ?_
   exact ⟨.inl ⟨hg,rfl⟩,(Ext.below hB1 (Ext.below hB2 (Ext.below dV (Ext.below dP dU))))⟩
theorem De (w:World) (CE LW:Value) (a m:Nat) (LA:Un w CE a) (h_m:Un w LW m) (hla:Sn a 90) (hlm:Sn m 90) (hm0:m≠0) (hg:Nat.gcd (a%m) m≠1) :
  Calls Tryz.prog 30 #[CE,LW] w fun e w'=>e = .returned (.tuple #[.slice none 0 0,.int .i64 4])∧Ext w w' :=
 (J2 w CE LW a m LA h_m hla hlm hm0).mono fun e w' h=>h.1.elim (fun k=>⟨k.2,h.2⟩) fun k=>absurd k.1 hg
theorem Wp (w:World) (CE LW:Value) (a m:Nat) (LA:Un w CE a) (h_m:Un w LW m) (hla:Sn a 90) (hlm:Sn m 90) (hm0:m≠0) (hg:Nat.gcd (a%m) m=1) :
  Calls Tryz.prog 30 #[CE,LW] w fun e w'=>∃ z,e = .returned (.tuple #[z,.int .i64 0])∧Un w' z ((cf (quo (a%m) m) 1 0).1%(m:Int)).natAbs∧Ext w w' :=
 (J2 w CE LW a m LA h_m hla hlm hm0).mono fun e w' h=>h.1.elim (fun k=>absurd hg k.1) fun k=>k.2.elim fun z hz=>⟨z,hz.1,hz.2,h.2⟩
end Go.Proofs.YtfhcmggpojhegaaGreatDoor
namespace Go.Proofs.YtfhcmggpojhegaaGreatDoor
open Go.RowKit
set_option linter.all false
set_option maxRecDepth 100000
set_option maxHeartbeats 8000000
section
variable {L:List Oper} {K:List (Nat × Value)→World→Prop} {i m:Nat} {o:Oper} {x y:Operand} {r:List (Bool × Nat × Nat)} {l:List (Nat × Value)} {w:World}
end
theorem Gd.four {w:World} {K:Nat} {cs:List Value} (h:Gd w K cs) (hl:cs.length=8):∃ b0 A0 n0 c0 b1 A1 n1 c1 b2 A2 n2 c2 b3 A3 n3 c3,cs=[.bool b0,.slice A0 n0 c0,.bool b1,.slice A1 n1 c1,.bool b2,.slice A2 n2 c2,.bool b3,.slice A3 n3 c3]:=by
 have one:∀ {cs:List Value} {n:Nat},Gd w K cs→cs.length=n+1→∃ b A k c l,cs = .bool b::.slice A k c::l∧Gd w K l∧l.length+1=n:=by
  intro cs n h hl
  match cs,h with
  | .bool b::.slice A k c::l,h=>exact ⟨b,A,k,c,l,rfl,h.2,by simpa using hl⟩
 obtain ⟨b0,A0,n0,c0,l0,rfl,h0,e0⟩:=one h hl
 obtain ⟨b1,A1,n1,c1,l1,rfl,h1,e1⟩:=one h0 (n:=5) (by omega)
 obtain ⟨b2,A2,n2,c2,l2,rfl,h2,e2⟩:=one h1 (n:=3) (by omega)
 obtain ⟨b3,A3,n3,c3,l3,rfl,h3,e3⟩:=one h2 (n:=1) (by omega)
 obtain rfl:l3=[]:=List.eq_nil_of_length_eq_zero (by omega)
 exact ⟨_,_,_,_,_,_,_,_,_,_,_,_,_,_,_,_,rfl⟩
namespace Tu
set_option linter.all false
set_option maxRecDepth 100000
set_option maxHeartbeats 8000000
theorem jm (u:Array Value) (X:World):(callFunc 35 u).run Tryz.prog X = .ok (.enter 35 u) X:=Pl.enters Tryz.func35 (by kernel_rfl) rfl u X
end Tu
open Tu
end Go.Proofs.YtfhcmggpojhegaaGreatDoor
namespace Go.Proofs.YtfhcmggpojhegaaGreatDoor
open Go.RowKit
set_option linter.all false
set_option maxRecDepth 100000
set_option maxHeartbeats 8000000
theorem kY (w:World) (va vb:Value) (a b:Nat) (ha:Un w va a) (hb:Un w vb b) (hla:Sn a 90) (hlb:Sn b 90) :
  Calls Tryz.prog 22 #[va,vb] w fun e w'=>∃ z,e = .returned z∧Un w' z (Nat.gcd a b)∧Ext w w':=by
 obtain ⟨Aa,ca,rfl,-⟩:=Un.sh ha
 obtain ⟨Ab,cb,rfl,-⟩:=Un.sh hb
 have hmin:decide ((3000:Int)≤(if ((limbs b).length:Int)<((limbs a).length:Int) then ((limbs b).length:Int) else ((limbs a).length:Int)))=false:=by unfold Sn at hla hlb;rw [decide_eq_false_iff_not];split<;>omega
 refine Pl.aZ (n:=17) (vs:=[.slice Aa (limbs a).length ca,.slice Ab (limbs b).length cb]) Tryz.func22 rfl (by kernel_rfl) (by simp) ?_
 repeat refine Pl.ay ?_
 refine Pl.ak (by kernel_rfl) ?_
 refine Pl.aF trivial rfl rfl rfl rfl rfl ?_
 refine Pl.aj ?_
 repeat refine Pl.ay ?_
 refine Pl.ak (by kernel_rfl) ?_
 refine Pl.aA trivial rfl rfl rfl rfl rfl ?_
 refine eT trivial rfl rfl rfl rfl rfl ?_
 refine Pl.aA trivial rfl rfl rfl rfl rfl ?_
 refine eT trivial rfl rfl rfl rfl rfl ?_
 refine Cz trivial rfl rfl rfl rfl rfl rfl ?_
 refine Pl.aN (v:=.bool false) trivial rfl rfl rfl rfl rfl rfl (fun X=>Jy hmin X) ?_
 refine Pl.aj ?_
 repeat refine Pl.ay ?_
 refine Pl.bn rfl ?_
 repeat refine Pl.ay ?_
 refine Pl.bM ?_
 repeat refine Pl.ay ?_
 refine Pl.ak (by kernel_rfl) ?_
 refine Pl.aA trivial rfl rfl rfl rfl rfl ?_
 refine Pl.aA trivial rfl rfl rfl rfl rfl ?_
 refine Pl.az rfl rfl rfl rfl rfl (fun u X=>Pl.enters Tryz.func14 (by kernel_rfl) rfl u X) ?_
 refine Calls.mono (pE _ _ _ a b ha hb hla hlb) ?_
 rintro e w4 ⟨z,rfl,hz,hB4⟩
 refine ⟨_,rfl,trivial,?_⟩
 refine Pl.aF trivial rfl rfl rfl rfl rfl ?_
 refine Pl.aj ?_
 exact Pl.bI rfl rfl ⟨_,rfl,hz,hB4⟩
end Go.Proofs.YtfhcmggpojhegaaGreatDoor
namespace Go.Proofs.YtfhcmggpojhegaaGreatDoor
open Go.RowKit
set_option linter.all false
set_option maxRecDepth 100000
set_option maxHeartbeats 8000000
theorem iU {n:Nat}:(limbs n).length=0↔n=0:=⟨fun h=>oV.1 (List.eq_nil_of_length_eq_zero h),fun h=>by subst h;rw [bf];rfl⟩
theorem H9 {n m:Nat} (h:Nat.gcd m n=1):Nat.gcd (n%m) m=1:=by rw [← Nat.gcd_rec];exact h
theorem Bp {n m:Nat} (h:Nat.gcd m n=1):Nat.gcd (m%n) n=1:=by rw [← Nat.gcd_rec,Nat.gcd_comm];exact h
theorem aaQ {n m:Nat} (h:¬ Nat.gcd m n=1):Nat.gcd (n%m) m≠1:=by rw [← Nat.gcd_rec];exact h
theorem Kg {n m:Nat} (h:¬ Nat.gcd m n=1):Nat.gcd (m%n) n≠1:=by rw [← Nat.gcd_rec,Nat.gcd_comm];exact h
theorem Df {a m:Nat} (h:m≠0):inv a m<m:=by
 unfold inv
 have h1:=Int.emod_nonneg (cf (quo (a%m) m) 1 0).1 (show (m:Int)≠0 by omega)
 have h2:=Int.emod_lt_of_pos (cf (quo (a%m) m) 1 0).1 (show (0:Int)<(m:Int) by omega)
 omega
theorem EY {a m:Nat} (hg:Nat.gcd (a%m) m=1) (h0:m≠0):(a*inv a m)%m=1%m:=by
 unfold inv
 have e:=bez (a%m) m
 rw [hg] at e
 generalize (cf (quo (a%m) m) 1 0).1=u at *
 generalize (cf (quo (a%m) m) 0 1).1=v at *
 have hn:=Int.emod_nonneg u (show (m:Int)≠0 by omega)
 obtain ⟨x,hx⟩:=Int.eq_ofNat_of_zero_le hn
 rw [hx,Int.natAbs_natCast]
 have h2:(((a*x)%m:Nat):Int)=((1%m:Nat):Int):=by
  have e2:(((a*x)%m:Nat):Int)=((a:Int)*(x:Int))%(m:Int):=by simp
  have e3:((1%m:Nat):Int)=(1:Int)%(m:Int):=by simp
  have e4:((a%m:Nat):Int)=(a:Int)%(m:Int):=by simp
  rw [e2,e3,← hx,Int.mul_emod (a:Int) (u%(m:Int)) (m:Int),Int.emod_emod_of_dvd u (Int.dvd_refl _),← Int.mul_emod,show (1:Int)=u*((a%m:Nat):Int)+v*(m:Int) from e.symm,e4,Int.add_mul_emod_self_right,Int.mul_emod u,Int.emod_emod_of_dvd _ (Int.dvd_refl _),← Int.mul_emod,Int.mul_comm]
 exact Int.ofNat.inj h2
theorem zn (w:World) (va vm:Value) (a m:Nat) (ha:Un w va a) (hm:Un w vm m) (la:Sn a 90) (lm:Sn m 90) (h0:m≠0) (hg:Nat.gcd (a%m) m=1) :
 Calls Tryz.prog 30 #[va,vm] w fun e w'=>∃ z,e = .returned (.tuple #[z,.int .i64 0])∧Un w' z (inv a m)∧Ext w w':=Wp w va vm a m ha hm la lm h0 hg
/-! The head. -/
/-! Whole numbers. -/
/-! Digit sums. -/
section
variable {P:Program} {L:List Oper} {S:World→Prop} {K:List (Nat × Value)→World→Prop} {kk:Bool} {i m d:Nat} {o:Oper} {x y:Operand} {r:List (Bool × Nat × Nat)} {l:List (Nat × Value)} {w:World}
end
end Go.Proofs.YtfhcmggpojhegaaGreatDoor
namespace Go.Proofs.YtfhcmggpojhegaaGreatDoor
open Go.RowKit 
set_option linter.all false
set_option maxRecDepth 100000
set_option maxHeartbeats 8000000
theorem Uh {a b m n x y S z:Nat} (hx:(n*x)%m=1%m) (hy:(m*y)%n=1%n) (hS:a*n*x+b*m*y=S) (hz:S%(m*n)=z):z%m=a%m∧z%n=b%n:=by
 subst hz hS
 constructor
 · rw [Nat.mod_mul_right_mod,Nat.add_mod,Nat.mul_assoc a,Nat.mul_mod a,hx,← Nat.mul_mod,Nat.mul_one,Nat.mul_right_comm b,Nat.mul_mod_left,Nat.add_zero,Nat.mod_mod]
 · rw [Nat.mod_mul_left_mod,Nat.add_mod,Nat.mul_right_comm a,Nat.mul_mod_left,Nat.mul_assoc b,Nat.mul_mod b,hy,← Nat.mul_mod,Nat.mul_one,Nat.zero_add,Nat.mod_mod]
theorem Ew (w:World) (r0:Value) (xa:List Nat) (u0:U w r0 xa) (r1:Value) (xb:List Nat) (u1:U w r1 xb) (r2:Value) (xm:List Nat) (u2:U w r2 xm) (r3:Value) (xn:List Nat) (u3:U w r3 xn) :
  Calls Tryz.prog 6 #[.agg #[r0,r1,r2,r3]] w fun e w'=>e = .returned (.bool true)∧Ext w w':=by
 obtain ⟨a,da⟩:∃ q,lF xa 10=q:=⟨_,rfl⟩
 have la:Sn a 10:=by rw [← da];exact jS xa 10 u0.lim
 obtain ⟨b,db⟩:∃ q,lF xb 10=q:=⟨_,rfl⟩
 have lb:Sn b 10:=by rw [← db];exact jS xb 10 u1.lim
 obtain ⟨m,dm⟩:∃ q,lF xm 10=q:=⟨_,rfl⟩
 have lm:Sn m 10:=by rw [← dm];exact jS xm 10 u2.lim
 obtain ⟨n,dn⟩:∃ q,lF xn 10=q:=⟨_,rfl⟩
 have ln:Sn n 10:=by rw [← dn];exact jS xn 10 u3.lim
 obtain ⟨z,qz⟩:∃ q,(a*n*inv n m+b*m*inv m n)%(m*n)=q:=⟨_,rfl⟩
 refine Pl.aZ (n:=156) (vs:=[.agg #[r0,r1,r2,r3]]) Tryz.func6 rfl (by kernel_rfl) (by simp) ?_
 repeat refine Pl.ay ?_
 refine Pl.ak (by kernel_rfl) ?_
 refine Pl.AR (cs:=[r0,r1,r2,r3]) rfl rfl rfl rfl rfl rfl (fun Y hY=>trivial) ?_
 intro N1 w1 hE1 Uc jF
 have uU:=Pl.Cb.lt jF
 have X0:=Pl.Ex.size hE1
 refine Pl.aG trivial rfl ?_
 refine Pl.aj ?_
 repeat refine Pl.ay ?_
 refine Pl.ak (by kernel_rfl) ?_
 refine Pl.az rfl rfl rfl rfl rfl (fun u X=>Pl.enters Tryz.func8 (by kernel_rfl) rfl u X) ?_
 refine Calls.mono (pF _) ?_
 rintro e w2 ⟨rfl,hE2⟩
 have WY:=Pl.Ex.size hE2
 refine ⟨_,rfl,trivial,?_⟩
 refine Pl.aG trivial rfl ?_
 refine Pl.aj ?_
 repeat refine Pl.ay ?_
 refine Pl.ak (by kernel_rfl) ?_
 refine Pl.sU (s:=1) (j:=0) Tryz.underlying43 (by kernel_rfl) rfl (by omega) trivial rfl rfl rfl rfl rfl rfl ?_
 refine Pl.oI (v:=r0) Tryz.underlying22 rfl (Pl.Cb.at (j:=0) (Pl.Cb.ex jF hE2) rfl) trivial rfl rfl rfl rfl rfl ?_
 refine Pl.az rfl rfl rfl rfl rfl (fun u X=>Pl.enters Tryz.func9 (by kernel_rfl) rfl u X) ?_
 refine Calls.mono (nA _ _ xa 10 (U.below u0 (Pl.Ex.trans hE1 hE2)) (by decide) (by decide) a da) ?_
 rintro e w3 ⟨v2,rfl,hv2,bJ⟩
 have TD:=Pl.Ex.size bJ
 refine ⟨_,rfl,trivial,?_⟩
 refine Pl.aG trivial rfl ?_
 refine Pl.aj ?_
 repeat refine Pl.ay ?_
 refine Pl.ak (by kernel_rfl) ?_
 refine Pl.sU (s:=1) (j:=1) Tryz.underlying43 (by kernel_rfl) rfl (by omega) trivial rfl rfl rfl rfl rfl rfl ?_
 refine Pl.oI (v:=r1) Tryz.underlying22 rfl (Pl.Cb.at (j:=1) (Pl.Cb.ex jF (Pl.Ex.trans hE2 bJ)) rfl) trivial rfl rfl rfl rfl rfl ?_
 refine Pl.az rfl rfl rfl rfl rfl (fun u X=>Pl.enters Tryz.func9 (by kernel_rfl) rfl u X) ?_
 refine Calls.mono (nA _ _ xb 10 (U.below u1 (Pl.Ex.trans hE1 (Pl.Ex.trans hE2 bJ))) (by decide) (by decide) b db) ?_
 rintro e w4 ⟨v3,rfl,hv3,bX⟩
 have TH:=Pl.Ex.size bX
 refine ⟨_,rfl,trivial,?_⟩
 refine Pl.aG trivial rfl ?_
 refine Pl.aj ?_
 repeat refine Pl.ay ?_
 refine Pl.ak (by kernel_rfl) ?_
 refine Pl.sU (s:=1) (j:=2) Tryz.underlying43 (by kernel_rfl) rfl (by omega) trivial rfl rfl rfl rfl rfl rfl ?_
 refine Pl.oI (v:=r2) Tryz.underlying22 rfl (Pl.Cb.at (j:=2) (Pl.Cb.ex jF (Pl.Ex.trans hE2 (Pl.Ex.trans bJ bX))) rfl) trivial rfl rfl rfl rfl rfl ?_
 refine Pl.az rfl rfl rfl rfl rfl (fun u X=>Pl.enters Tryz.func9 (by kernel_rfl) rfl u X) ?_
 refine Calls.mono (nA _ _ xm 10 (U.below u2 (Pl.Ex.trans hE1 (Pl.Ex.trans hE2 (Pl.Ex.trans bJ bX)))) (by decide) (by decide) m dm) ?_
 rintro e w5 ⟨v4,rfl,hv4,bE⟩
 have Mw:=Pl.Ex.size bE
 refine ⟨_,rfl,trivial,?_⟩
 refine Pl.aG trivial rfl ?_
 refine Pl.aj ?_
 repeat refine Pl.ay ?_
 refine Pl.ak (by kernel_rfl) ?_
 refine Pl.sU (s:=1) (j:=3) Tryz.underlying43 (by kernel_rfl) rfl (by omega) trivial rfl rfl rfl rfl rfl rfl ?_
 refine Pl.oI (v:=r3) Tryz.underlying22 rfl (Pl.Cb.at (j:=3) (Pl.Cb.ex jF (Pl.Ex.trans hE2 (Pl.Ex.trans bJ (Pl.Ex.trans bX bE)))) rfl) trivial rfl rfl rfl rfl rfl ?_
 refine Pl.az rfl rfl rfl rfl rfl (fun u X=>Pl.enters Tryz.func9 (by kernel_rfl) rfl u X) ?_
 refine Calls.mono (nA _ _ xn 10 (U.below u3 (Pl.Ex.trans hE1 (Pl.Ex.trans hE2 (Pl.Ex.trans bJ (Pl.Ex.trans bX bE))))) (by decide) (by decide) n dn) ?_
 rintro e w6 ⟨v5,rfl,hv5,bu⟩
 have Cj:=Pl.Ex.size bu
 refine ⟨_,rfl,trivial,?_⟩
 refine Pl.aG trivial rfl ?_
 refine Pl.aj ?_
 repeat refine Pl.ay ?_
 refine Pl.ak (by kernel_rfl) ?_
 refine Pl.aG trivial rfl ?_
 by_cases c6:(limbs m).length=0
 · refine Pl.az rfl rfl rfl rfl rfl (fun u X=>Pl.enters Tryz.func30 (by kernel_rfl) rfl u X) ?_
   refine Calls.mono (xA _ _ _ n m hv5 (Un.below hv4 bu) (Sn.le ln (by decide)) (Sn.le lm (by decide)) (iU.1 c6)) ?_
   rintro e w7 ⟨rfl,cB⟩
   have zS:=Pl.Ex.size cB
   refine ⟨_,rfl,trivial,?_⟩
   refine Pl.aG trivial rfl ?_
   refine Pl.aj ?_
   repeat refine Pl.ay ?_
   refine Pl.ak (by kernel_rfl) ?_
   refine Pl.aG trivial rfl ?_
   by_cases c7:(limbs n).length=0
   · refine Pl.az rfl rfl rfl rfl rfl (fun u X=>Pl.enters Tryz.func30 (by kernel_rfl) rfl u X) ?_
     refine Calls.mono (xA _ _ _ m n (Un.below hv4 (Pl.Ex.trans bu cB)) (Un.below hv5 cB) (Sn.le lm (by decide)) (Sn.le ln (by decide)) (iU.1 c7)) ?_
     rintro e w8 ⟨rfl,dL⟩
     have xg:=Pl.Ex.size dL
     refine ⟨_,rfl,trivial,?_⟩
     refine Pl.aG trivial rfl ?_
     refine Pl.aj ?_
     repeat refine Pl.ay ?_
     refine Pl.ak (by kernel_rfl) ?_
     refine Pl.aG trivial rfl ?_
     refine Pl.az rfl rfl rfl rfl rfl (fun u X=>Pl.enters Tryz.func22 (by kernel_rfl) rfl u X) ?_
     refine Calls.mono (kY _ _ _ m n (Un.below hv4 (Pl.Ex.trans bu (Pl.Ex.trans cB dL))) (Un.below hv5 (Pl.Ex.trans cB dL)) (Sn.le lm (by decide)) (Sn.le ln (by decide))) ?_
     rintro e w9 ⟨v8,rfl,DN,fu⟩
     have PV:=Pl.Ex.size fu
     refine ⟨_,rfl,trivial,?_⟩
     refine Pl.uR (e := 27) (n:=1) [.int .u32 1] rfl rfl rfl rfl (by kernel_rfl) (fun Y hY=>trivial) ?_
     intro N9 uY cZ anz wB
     have atb:=Pl.Cb.lt wB
     have yH:=Pl.Ex.size cZ
     by_cases c10:(Nat.gcd m n)=1
     · have LZ:=Un.one (x:=1) wB rfl (by omega)
       refine Pl.az rfl rfl rfl rfl rfl (fun u X=>Pl.enters Tryz.func15 (by kernel_rfl) rfl u X) ?_
       refine Calls.mono (mK _ _ _ (Nat.gcd m n) 1 (Un.below DN cZ) LZ true (decide_eq_true c10)) ?_
       rintro e BU ⟨rfl,dw⟩
       have xR:=Pl.Ex.size dw
       refine ⟨_,rfl,trivial,?_⟩
       refine Pl.ng (v:=.bool false) trivial rfl rfl rfl rfl rfl (fun X=>rfl) ?_
       refine Pl.aj ?_
       repeat refine Pl.ay ?_
       refine Pl.bn rfl ?_
       repeat refine Pl.ay ?_
       refine Pl.bM ?_
       repeat refine Pl.ay ?_
       refine Pl.ak (by kernel_rfl) ?_
       refine Pl.aG trivial rfl ?_
       obtain ⟨A12,c13,rfl⟩:=Un.Xf (Un.below hv4 (Pl.Ex.trans bu (Pl.Ex.trans cB (Pl.Ex.trans dL (Pl.Ex.trans fu (Pl.Ex.trans cZ dw))))))
       refine Pl.pY Tryz.underlying22 trivial rfl rfl rfl rfl rfl ?_
       refine Pl.bV (v:=.bool true) (fun X=>Pl.gL (Pl.e_t (by omega)) X) trivial rfl rfl rfl rfl rfl rfl ?_
       refine Pl.aG trivial rfl ?_
       refine Pl.aj ?_
       repeat refine Pl.ay ?_
       refine Pl.cK rfl ?_
       repeat refine Pl.ay ?_
       refine Pl.ak (by kernel_rfl) ?_
       refine Pl.aG trivial rfl ?_
       refine Pl.aj ?_
       repeat refine Pl.ay ?_
       exact Pl.bI rfl rfl  (⟨rfl,(Pl.Ex.trans hE1 (Pl.Ex.trans hE2 (Pl.Ex.trans bJ (Pl.Ex.trans bX (Pl.Ex.trans bE (Pl.Ex.trans bu (Pl.Ex.trans cB (Pl.Ex.trans dL (Pl.Ex.trans fu (Pl.Ex.trans cZ dw))))))))))⟩)
     · have LZ:=Un.one (x:=1) wB rfl (by omega)
       refine Pl.az rfl rfl rfl rfl rfl (fun u X=>Pl.enters Tryz.func15 (by kernel_rfl) rfl u X) ?_
       refine Calls.mono (mK _ _ _ (Nat.gcd m n) 1 (Un.below DN cZ) LZ false (decide_eq_false c10)) ?_
       rintro e BU ⟨rfl,dw⟩
       have xR:=Pl.Ex.size dw
       refine ⟨_,rfl,trivial,?_⟩
       refine Pl.ng (v:=.bool true) trivial rfl rfl rfl rfl rfl (fun X=>rfl) ?_
       refine Pl.aj ?_
       repeat refine Pl.ay ?_
       refine Pl.cK rfl ?_
       repeat refine Pl.ay ?_
       refine Pl.ak (by kernel_rfl) ?_
       refine Pl.aG trivial rfl ?_
       refine Pl.bV (v:=.bool true) (fun X=>Pl.Ue (Pl.n_t (by omega)) X) trivial rfl rfl rfl rfl rfl rfl ?_
       refine Pl.aG trivial rfl ?_
       refine Pl.aj ?_
       repeat refine Pl.ay ?_
       exact Pl.bI rfl rfl  (⟨rfl,(Pl.Ex.trans hE1 (Pl.Ex.trans hE2 (Pl.Ex.trans bJ (Pl.Ex.trans bX (Pl.Ex.trans bE (Pl.Ex.trans bu (Pl.Ex.trans cB (Pl.Ex.trans dL (Pl.Ex.trans fu (Pl.Ex.trans cZ dw))))))))))⟩)
   · by_cases c8:Nat.gcd m n=1
     · refine Pl.az rfl rfl rfl rfl rfl (fun u X=>Pl.enters Tryz.func30 (by kernel_rfl) rfl u X) ?_
       refine Calls.mono (zn _ _ _ m n (Un.below hv4 (Pl.Ex.trans bu cB)) (Un.below hv5 cB) (Sn.le lm (by decide)) (Sn.le ln (by decide)) (fun h9=>c7 (iU.2 h9)) (Bp c8)) ?_
       rintro e w8 ⟨v9,rfl,xk,dL⟩
       have xg:=Pl.Ex.size dL
       refine ⟨_,rfl,trivial,?_⟩
       refine Pl.aG trivial rfl ?_
       refine Pl.aj ?_
       repeat refine Pl.ay ?_
       refine Pl.ak (by kernel_rfl) ?_
       refine Pl.aG trivial rfl ?_
       refine Pl.az rfl rfl rfl rfl rfl (fun u X=>Pl.enters Tryz.func22 (by kernel_rfl) rfl u X) ?_
       refine Calls.mono (kY _ _ _ m n (Un.below hv4 (Pl.Ex.trans bu (Pl.Ex.trans cB dL))) (Un.below hv5 (Pl.Ex.trans cB dL)) (Sn.le lm (by decide)) (Sn.le ln (by decide))) ?_
       rintro e w9 ⟨v10,rfl,nP,fu⟩
       have PV:=Pl.Ex.size fu
       refine ⟨_,rfl,trivial,?_⟩
       refine Pl.uR (e := 27) (n:=1) [.int .u32 1] rfl rfl rfl rfl (by kernel_rfl) (fun Y hY=>trivial) ?_
       intro N11 uY cZ ai' Br
       have aop:=Pl.Cb.lt Br
       have yH:=Pl.Ex.size cZ
       have hl12:=Un.one (x:=1) Br rfl (by omega)
       refine Pl.az rfl rfl rfl rfl rfl (fun u X=>Pl.enters Tryz.func15 (by kernel_rfl) rfl u X) ?_
       refine Calls.mono (mK _ _ _ (Nat.gcd m n) 1 (Un.below nP cZ) hl12 true (decide_eq_true c8)) ?_
       rintro e BU ⟨rfl,dw⟩
       have xR:=Pl.Ex.size dw
       refine ⟨_,rfl,trivial,?_⟩
       refine Pl.ng (v:=.bool false) trivial rfl rfl rfl rfl rfl (fun X=>rfl) ?_
       refine Pl.aj ?_
       repeat refine Pl.ay ?_
       refine Pl.bn rfl ?_
       repeat refine Pl.ay ?_
       refine Pl.bM ?_
       repeat refine Pl.ay ?_
       refine Pl.ak (by kernel_rfl) ?_
       refine Pl.aG trivial rfl ?_
       obtain ⟨Pk,c14,rfl⟩:=Un.Xf (Un.below hv4 (Pl.Ex.trans bu (Pl.Ex.trans cB (Pl.Ex.trans dL (Pl.Ex.trans fu (Pl.Ex.trans cZ dw))))))
       refine Pl.pY Tryz.underlying22 trivial rfl rfl rfl rfl rfl ?_
       refine Pl.bV (v:=.bool true) (fun X=>Pl.gL (Pl.e_t (by omega)) X) trivial rfl rfl rfl rfl rfl rfl ?_
       refine Pl.aG trivial rfl ?_
       refine Pl.aj ?_
       repeat refine Pl.ay ?_
       refine Pl.cK rfl ?_
       repeat refine Pl.ay ?_
       refine Pl.ak (by kernel_rfl) ?_
       refine Pl.aG trivial rfl ?_
       refine Pl.aj ?_
       repeat refine Pl.ay ?_
       exact Pl.bI rfl rfl  (⟨rfl,(Pl.Ex.trans hE1 (Pl.Ex.trans hE2 (Pl.Ex.trans bJ (Pl.Ex.trans bX (Pl.Ex.trans bE (Pl.Ex.trans bu (Pl.Ex.trans cB (Pl.Ex.trans dL (Pl.Ex.trans fu (Pl.Ex.trans cZ dw))))))))))⟩)
     · refine Pl.az rfl rfl rfl rfl rfl (fun u X=>Pl.enters Tryz.func30 (by kernel_rfl) rfl u X) ?_
       refine Calls.mono (De _ _ _ m n (Un.below hv4 (Pl.Ex.trans bu cB)) (Un.below hv5 cB) (Sn.le lm (by decide)) (Sn.le ln (by decide)) (fun h9=>c7 (iU.2 h9)) (Kg c8)) ?_
       rintro e w8 ⟨rfl,dL⟩
       have xg:=Pl.Ex.size dL
       refine ⟨_,rfl,trivial,?_⟩
       refine Pl.aG trivial rfl ?_
       refine Pl.aj ?_
       repeat refine Pl.ay ?_
       refine Pl.ak (by kernel_rfl) ?_
       refine Pl.aG trivial rfl ?_
       refine Pl.az rfl rfl rfl rfl rfl (fun u X=>Pl.enters Tryz.func22 (by kernel_rfl) rfl u X) ?_
       refine Calls.mono (kY _ _ _ m n (Un.below hv4 (Pl.Ex.trans bu (Pl.Ex.trans cB dL))) (Un.below hv5 (Pl.Ex.trans cB dL)) (Sn.le lm (by decide)) (Sn.le ln (by decide))) ?_
       rintro e w9 ⟨v9,rfl,xk,fu⟩
       have PV:=Pl.Ex.size fu
       refine ⟨_,rfl,trivial,?_⟩
       refine Pl.uR (e := 27) (n:=1) [.int .u32 1] rfl rfl rfl rfl (by kernel_rfl) (fun Y hY=>trivial) ?_
       intro N10 uY cZ aaR rJ
       have JW:=Pl.Cb.lt rJ
       have yH:=Pl.Ex.size cZ
       have LZ:=Un.one (x:=1) rJ rfl (by omega)
       refine Pl.az rfl rfl rfl rfl rfl (fun u X=>Pl.enters Tryz.func15 (by kernel_rfl) rfl u X) ?_
       refine Calls.mono (mK _ _ _ (Nat.gcd m n) 1 (Un.below xk cZ) LZ false (decide_eq_false c8)) ?_
       rintro e BU ⟨rfl,dw⟩
       have xR:=Pl.Ex.size dw
       refine ⟨_,rfl,trivial,?_⟩
       refine Pl.ng (v:=.bool true) trivial rfl rfl rfl rfl rfl (fun X=>rfl) ?_
       refine Pl.aj ?_
       repeat refine Pl.ay ?_
       refine Pl.cK rfl ?_
       repeat refine Pl.ay ?_
       refine Pl.ak (by kernel_rfl) ?_
       refine Pl.aG trivial rfl ?_
       refine Pl.bV (v:=.bool true) (fun X=>Pl.Ue (Pl.n_t (by omega)) X) trivial rfl rfl rfl rfl rfl rfl ?_
       refine Pl.aG trivial rfl ?_
       refine Pl.aj ?_
       repeat refine Pl.ay ?_
       exact Pl.bI rfl rfl  (⟨rfl,(Pl.Ex.trans hE1 (Pl.Ex.trans hE2 (Pl.Ex.trans bJ (Pl.Ex.trans bX (Pl.Ex.trans bE (Pl.Ex.trans bu (Pl.Ex.trans cB (Pl.Ex.trans dL (Pl.Ex.trans fu (Pl.Ex.trans cZ dw))))))))))⟩)
 · by_cases c7:Nat.gcd m n=1
   · refine Pl.az rfl rfl rfl rfl rfl (fun u X=>Pl.enters Tryz.func30 (by kernel_rfl) rfl u X) ?_
     refine Calls.mono (zn _ _ _ n m hv5 (Un.below hv4 bu) (Sn.le ln (by decide)) (Sn.le lm (by decide)) (fun h9=>c6 (iU.2 h9)) (H9 c7)) ?_
     rintro e w7 ⟨v8,rfl,DN,cB⟩
     have zS:=Pl.Ex.size cB
     refine ⟨_,rfl,trivial,?_⟩
     refine Pl.aG trivial rfl ?_
     refine Pl.aj ?_
     repeat refine Pl.ay ?_
     refine Pl.ak (by kernel_rfl) ?_
     refine Pl.aG trivial rfl ?_
     by_cases c9:(limbs n).length=0
     · refine Pl.az rfl rfl rfl rfl rfl (fun u X=>Pl.enters Tryz.func30 (by kernel_rfl) rfl u X) ?_
       refine Calls.mono (xA _ _ _ m n (Un.below hv4 (Pl.Ex.trans bu cB)) (Un.below hv5 cB) (Sn.le lm (by decide)) (Sn.le ln (by decide)) (iU.1 c9)) ?_
       rintro e w8 ⟨rfl,dL⟩
       have xg:=Pl.Ex.size dL
       refine ⟨_,rfl,trivial,?_⟩
       refine Pl.aG trivial rfl ?_
       refine Pl.aj ?_
       repeat refine Pl.ay ?_
       refine Pl.ak (by kernel_rfl) ?_
       refine Pl.aG trivial rfl ?_
       refine Pl.az rfl rfl rfl rfl rfl (fun u X=>Pl.enters Tryz.func22 (by kernel_rfl) rfl u X) ?_
       refine Calls.mono (kY _ _ _ m n (Un.below hv4 (Pl.Ex.trans bu (Pl.Ex.trans cB dL))) (Un.below hv5 (Pl.Ex.trans cB dL)) (Sn.le lm (by decide)) (Sn.le ln (by decide))) ?_
       rintro e w9 ⟨v10,rfl,nP,fu⟩
       have PV:=Pl.Ex.size fu
       refine ⟨_,rfl,trivial,?_⟩
       refine Pl.uR (e := 27) (n:=1) [.int .u32 1] rfl rfl rfl rfl (by kernel_rfl) (fun Y hY=>trivial) ?_
       intro N11 uY cZ ai' Br
       have aop:=Pl.Cb.lt Br
       have yH:=Pl.Ex.size cZ
       have hl12:=Un.one (x:=1) Br rfl (by omega)
       refine Pl.az rfl rfl rfl rfl rfl (fun u X=>Pl.enters Tryz.func15 (by kernel_rfl) rfl u X) ?_
       refine Calls.mono (mK _ _ _ (Nat.gcd m n) 1 (Un.below nP cZ) hl12 true (decide_eq_true c7)) ?_
       rintro e BU ⟨rfl,dw⟩
       have xR:=Pl.Ex.size dw
       refine ⟨_,rfl,trivial,?_⟩
       refine Pl.ng (v:=.bool false) trivial rfl rfl rfl rfl rfl (fun X=>rfl) ?_
       refine Pl.aj ?_
       repeat refine Pl.ay ?_
       refine Pl.bn rfl ?_
       repeat refine Pl.ay ?_
       refine Pl.bM ?_
       repeat refine Pl.ay ?_
       refine Pl.ak (by kernel_rfl) ?_
       refine Pl.aG trivial rfl ?_
       obtain ⟨Pk,c14,rfl⟩:=Un.Xf (Un.below hv4 (Pl.Ex.trans bu (Pl.Ex.trans cB (Pl.Ex.trans dL (Pl.Ex.trans fu (Pl.Ex.trans cZ dw))))))
       refine Pl.pY Tryz.underlying22 trivial rfl rfl rfl rfl rfl ?_
       refine Pl.bV (v:=.bool false) (fun X=>Pl.gL (Pl.e_f (by omega)) X) trivial rfl rfl rfl rfl rfl rfl ?_
       refine Pl.aG trivial rfl ?_
       obtain ⟨A15,c16,rfl⟩:=Un.Xf (Un.below hv5 (Pl.Ex.trans cB (Pl.Ex.trans dL (Pl.Ex.trans fu (Pl.Ex.trans cZ dw)))))
       refine Pl.pY Tryz.underlying22 trivial rfl rfl rfl rfl rfl ?_
       refine Pl.bV (v:=.bool true) (fun X=>Pl.gL (Pl.e_t (by omega)) X) trivial rfl rfl rfl rfl rfl rfl ?_
       refine Pl.aG trivial rfl ?_
       refine Pl.aj ?_
       repeat refine Pl.ay ?_
       refine Pl.cK rfl ?_
       repeat refine Pl.ay ?_
       refine Pl.ak (by kernel_rfl) ?_
       refine Pl.aG trivial rfl ?_
       refine Pl.aj ?_
       repeat refine Pl.ay ?_
       exact Pl.bI rfl rfl  (⟨rfl,(Pl.Ex.trans hE1 (Pl.Ex.trans hE2 (Pl.Ex.trans bJ (Pl.Ex.trans bX (Pl.Ex.trans bE (Pl.Ex.trans bu (Pl.Ex.trans cB (Pl.Ex.trans dL (Pl.Ex.trans fu (Pl.Ex.trans cZ dw))))))))))⟩)
     · refine Pl.az rfl rfl rfl rfl rfl (fun u X=>Pl.enters Tryz.func30 (by kernel_rfl) rfl u X) ?_
       refine Calls.mono (zn _ _ _ m n (Un.below hv4 (Pl.Ex.trans bu cB)) (Un.below hv5 cB) (Sn.le lm (by decide)) (Sn.le ln (by decide)) (fun h9=>c9 (iU.2 h9)) (Bp c7)) ?_
       rintro e w8 ⟨v10,rfl,nP,dL⟩
       have xg:=Pl.Ex.size dL
       refine ⟨_,rfl,trivial,?_⟩
       refine Pl.aG trivial rfl ?_
       refine Pl.aj ?_
       repeat refine Pl.ay ?_
       refine Pl.ak (by kernel_rfl) ?_
       refine Pl.aG trivial rfl ?_
       refine Pl.az rfl rfl rfl rfl rfl (fun u X=>Pl.enters Tryz.func22 (by kernel_rfl) rfl u X) ?_
       refine Calls.mono (kY _ _ _ m n (Un.below hv4 (Pl.Ex.trans bu (Pl.Ex.trans cB dL))) (Un.below hv5 (Pl.Ex.trans cB dL)) (Sn.le lm (by decide)) (Sn.le ln (by decide))) ?_
       rintro e w9 ⟨v11,rfl,rO,fu⟩
       have PV:=Pl.Ex.size fu
       refine ⟨_,rfl,trivial,?_⟩
       refine Pl.uR (e := 27) (n:=1) [.int .u32 1] rfl rfl rfl rfl (by kernel_rfl) (fun Y hY=>trivial) ?_
       intro Xg uY cZ aud Ui
       have D8:=Pl.Cb.lt Ui
       have yH:=Pl.Ex.size cZ
       have aue:=Un.one (x:=1) Ui rfl (by omega)
       refine Pl.az rfl rfl rfl rfl rfl (fun u X=>Pl.enters Tryz.func15 (by kernel_rfl) rfl u X) ?_
       refine Calls.mono (mK _ _ _ (Nat.gcd m n) 1 (Un.below rO cZ) aue true (decide_eq_true c7)) ?_
       rintro e BU ⟨rfl,dw⟩
       have xR:=Pl.Ex.size dw
       refine ⟨_,rfl,trivial,?_⟩
       refine Pl.ng (v:=.bool false) trivial rfl rfl rfl rfl rfl (fun X=>rfl) ?_
       refine Pl.aj ?_
       repeat refine Pl.ay ?_
       refine Pl.bn rfl ?_
       repeat refine Pl.ay ?_
       refine Pl.bM ?_
       repeat refine Pl.ay ?_
       refine Pl.ak (by kernel_rfl) ?_
       refine Pl.aG trivial rfl ?_
       obtain ⟨MC,c15,rfl⟩:=Un.Xf (Un.below hv4 (Pl.Ex.trans bu (Pl.Ex.trans cB (Pl.Ex.trans dL (Pl.Ex.trans fu (Pl.Ex.trans cZ dw))))))
       refine Pl.pY Tryz.underlying22 trivial rfl rfl rfl rfl rfl ?_
       refine Pl.bV (v:=.bool false) (fun X=>Pl.gL (Pl.e_f (by omega)) X) trivial rfl rfl rfl rfl rfl rfl ?_
       refine Pl.aG trivial rfl ?_
       obtain ⟨A16,c17,rfl⟩:=Un.Xf (Un.below hv5 (Pl.Ex.trans cB (Pl.Ex.trans dL (Pl.Ex.trans fu (Pl.Ex.trans cZ dw)))))
       refine Pl.pY Tryz.underlying22 trivial rfl rfl rfl rfl rfl ?_
       refine Pl.bV (v:=.bool false) (fun X=>Pl.gL (Pl.e_f (by omega)) X) trivial rfl rfl rfl rfl rfl rfl ?_
       refine Pl.aG trivial rfl ?_
       refine Pl.aj ?_
       repeat refine Pl.ay ?_
       refine Pl.bn rfl ?_
       repeat refine Pl.ay ?_
       refine Pl.bM ?_
       repeat refine Pl.ay ?_
       refine Pl.ak (by kernel_rfl) ?_
       refine Pl.aG trivial rfl ?_
       refine Pl.az rfl rfl rfl rfl rfl (fun u X=>Pl.enters Tryz.func17 (by kernel_rfl) rfl u X) ?_
       refine Calls.mono (mulN _ _ _ a n _ (Un.below hv2 (Pl.Ex.trans bX (Pl.Ex.trans bE (Pl.Ex.trans bu (Pl.Ex.trans cB (Pl.Ex.trans dL (Pl.Ex.trans fu (Pl.Ex.trans cZ dw)))))))) (Un.below hv5 (Pl.Ex.trans cB (Pl.Ex.trans dL (Pl.Ex.trans fu (Pl.Ex.trans cZ dw))))) (Sn.le la (by decide)) (Sn.le ln (by decide)) rfl) ?_
       rintro e w12 ⟨v18,rfl,Qg,fV⟩
       have Fw:=Pl.Ex.size fV
       refine ⟨_,rfl,trivial,?_⟩
       refine Pl.aG trivial rfl ?_
       refine Pl.az rfl rfl rfl rfl rfl (fun u X=>Pl.enters Tryz.func17 (by kernel_rfl) rfl u X) ?_
       refine Calls.mono (mulN _ _ _ (a*n) (inv n m) _ Qg (Un.below DN (Pl.Ex.trans dL (Pl.Ex.trans fu (Pl.Ex.trans cZ (Pl.Ex.trans dw fV))))) (Sn.le (Sn.mul la ln (by decide):Sn (a*n) 20) (by decide)) (Sn.le (lm.down (Nat.le_of_lt (Df (fun h9=>c6 (iU.2 h9))))) (by decide)) rfl) ?_
       rintro e IZ ⟨v19,rfl,Yd,dh⟩
       have Fx:=Pl.Ex.size dh
       refine ⟨_,rfl,trivial,?_⟩
       refine Pl.aG trivial rfl ?_
       refine Pl.az rfl rfl rfl rfl rfl (fun u X=>Pl.enters Tryz.func17 (by kernel_rfl) rfl u X) ?_
       refine Calls.mono (mulN _ _ _ b m _ (Un.below hv3 (Pl.Ex.trans bE (Pl.Ex.trans bu (Pl.Ex.trans cB (Pl.Ex.trans dL (Pl.Ex.trans fu (Pl.Ex.trans cZ (Pl.Ex.trans dw (Pl.Ex.trans fV dh))))))))) (Un.below hv4 (Pl.Ex.trans bu (Pl.Ex.trans cB (Pl.Ex.trans dL (Pl.Ex.trans fu (Pl.Ex.trans cZ (Pl.Ex.trans dw (Pl.Ex.trans fV dh)))))))) (Sn.le lb (by decide)) (Sn.le lm (by decide)) rfl) ?_
       rintro e Qf ⟨v20,rfl,auf,bZ⟩
       have FK:=Pl.Ex.size bZ
       refine ⟨_,rfl,trivial,?_⟩
       refine Pl.aG trivial rfl ?_
       refine Pl.az rfl rfl rfl rfl rfl (fun u X=>Pl.enters Tryz.func17 (by kernel_rfl) rfl u X) ?_
       refine Calls.mono (mulN _ _ _ (b*m) (inv m n) _ auf (Un.below nP (Pl.Ex.trans fu (Pl.Ex.trans cZ (Pl.Ex.trans dw (Pl.Ex.trans fV (Pl.Ex.trans dh bZ)))))) (Sn.le (Sn.mul lb lm (by decide):Sn (b*m) 20) (by decide)) (Sn.le (ln.down (Nat.le_of_lt (Df (fun h9=>c9 (iU.2 h9))))) (by decide)) rfl) ?_
       rintro e Ph ⟨v21,rfl,aug,bO⟩
       have Co:=Pl.Ex.size bO
       refine ⟨_,rfl,trivial,?_⟩
       refine Pl.az rfl rfl rfl rfl rfl (fun u X=>Pl.enters Tryz.func13 (by kernel_rfl) rfl u X) ?_
       refine Calls.mono (jA _ _ _ ((a*n)*(inv n m)) ((b*m)*(inv m n)) (Un.below Yd (Pl.Ex.trans bZ bO)) aug (Sn.le (Sn.mul (Sn.mul la ln (by decide):Sn (a*n) 20) (lm.down (Nat.le_of_lt (Df (fun h9=>c6 (iU.2 h9))))) (by decide):Sn ((a*n)*(inv n m)) 30) (by decide)) (Sn.le (Sn.mul (Sn.mul lb lm (by decide):Sn (b*m) 20) (ln.down (Nat.le_of_lt (Df (fun h9=>c9 (iU.2 h9))))) (by decide):Sn ((b*m)*(inv m n)) 30) (by decide)) _ rfl) ?_
       rintro e w16 ⟨v22,rfl,Yh,bH⟩
       have xU:=Pl.Ex.size bH
       refine ⟨_,rfl,trivial,?_⟩
       refine Pl.aG trivial rfl ?_
       refine Pl.aj ?_
       repeat refine Pl.ay ?_
       refine Pl.ak (by kernel_rfl) ?_
       refine Pl.aG trivial rfl ?_
       refine Pl.az rfl rfl rfl rfl rfl (fun u X=>Pl.enters Tryz.func17 (by kernel_rfl) rfl u X) ?_
       refine Calls.mono (mulN _ _ _ m n _ (Un.below hv4 (Pl.Ex.trans bu (Pl.Ex.trans cB (Pl.Ex.trans dL (Pl.Ex.trans fu (Pl.Ex.trans cZ (Pl.Ex.trans dw (Pl.Ex.trans fV (Pl.Ex.trans dh (Pl.Ex.trans bZ (Pl.Ex.trans bO bH))))))))))) (Un.below hv5 (Pl.Ex.trans cB (Pl.Ex.trans dL (Pl.Ex.trans fu (Pl.Ex.trans cZ (Pl.Ex.trans dw (Pl.Ex.trans fV (Pl.Ex.trans dh (Pl.Ex.trans bZ (Pl.Ex.trans bO bH)))))))))) (Sn.le lm (by decide)) (Sn.le ln (by decide)) rfl) ?_
       rintro e KZ ⟨v23,rfl,K8,bC⟩
       have yM:=Pl.Ex.size bC
       refine ⟨_,rfl,trivial,?_⟩
       refine Pl.az rfl rfl rfl rfl rfl (fun u X=>Pl.enters Tryz.func19 (by kernel_rfl) rfl u X) ?_
       refine Calls.mono (Ce _ _ _ (((a*n)*(inv n m))+((b*m)*(inv m n))) (m*n) _ _ (Un.below Yh bC) K8 (Sn.le (Sn.add (Sn.mul (Sn.mul la ln (by decide):Sn (a*n) 20) (lm.down (Nat.le_of_lt (Df (fun h9=>c6 (iU.2 h9))))) (by decide):Sn ((a*n)*(inv n m)) 30) (Sn.mul (Sn.mul lb lm (by decide):Sn (b*m) 20) (ln.down (Nat.le_of_lt (Df (fun h9=>c9 (iU.2 h9))))) (by decide):Sn ((b*m)*(inv m n)) 30) (by decide) (by decide):Sn (((a*n)*(inv n m))+((b*m)*(inv m n))) 31) (by decide)) (Sn.le (Sn.mul lm ln (by decide):Sn (m*n) 20) (by decide)) (Nat.mul_ne_zero (fun h9=>c6 (iU.2 h9)) (fun h9=>c9 (iU.2 h9))) rfl rfl) ?_
       rintro e Nj ⟨⟨v24,v25,rfl,hv24,hv25⟩,bQ⟩
       have xV:=Pl.Ex.size bQ
       have lz:Sn z 20:=by rw [← qz];exact Sn.mod (lm.mul ln (by decide)) (Nat.mul_ne_zero (fun h9=>c6 (iU.2 h9)) (fun h9=>c9 (iU.2 h9)))
       replace hv25:=Un.as hv25 qz
       refine ⟨_,rfl,trivial,?_⟩
       refine Pl.aG trivial rfl ?_
       refine Pl.aj ?_
       repeat refine Pl.ay ?_
       refine Pl.ak (by kernel_rfl) ?_
       refine Pl.aG trivial rfl ?_
       refine Pl.az rfl rfl rfl rfl rfl (fun u X=>Pl.enters Tryz.func18 (by kernel_rfl) rfl u X) ?_
       refine Calls.mono (iI _ _ _ z m _ _ hv25 (Un.below hv4 (Pl.Ex.trans bu (Pl.Ex.trans cB (Pl.Ex.trans dL (Pl.Ex.trans fu (Pl.Ex.trans cZ (Pl.Ex.trans dw (Pl.Ex.trans fV (Pl.Ex.trans dh (Pl.Ex.trans bZ (Pl.Ex.trans bO (Pl.Ex.trans bH (Pl.Ex.trans bC bQ))))))))))))) (Sn.le lz (by decide)) (Sn.le lm (by decide)) (fun h9=>c6 (iU.2 h9)) rfl rfl) ?_
       rintro e Yc ⟨⟨v26,v27,rfl,V9,hv27⟩,bU⟩
       have I4:=Pl.Ex.size bU
       refine ⟨_,rfl,trivial,?_⟩
       refine Pl.aG trivial rfl ?_
       refine Pl.aj ?_
       repeat refine Pl.ay ?_
       refine Pl.ak (by kernel_rfl) ?_
       refine Pl.aG trivial rfl ?_
       refine Pl.az rfl rfl rfl rfl rfl (fun u X=>Pl.enters Tryz.func18 (by kernel_rfl) rfl u X) ?_
       refine Calls.mono (iI _ _ _ z n _ _ (Un.below hv25 bU) (Un.below hv5 (Pl.Ex.trans cB (Pl.Ex.trans dL (Pl.Ex.trans fu (Pl.Ex.trans cZ (Pl.Ex.trans dw (Pl.Ex.trans fV (Pl.Ex.trans dh (Pl.Ex.trans bZ (Pl.Ex.trans bO (Pl.Ex.trans bH (Pl.Ex.trans bC (Pl.Ex.trans bQ bU))))))))))))) (Sn.le lz (by decide)) (Sn.le ln (by decide)) (fun h9=>c9 (iU.2 h9)) rfl rfl) ?_
       rintro e w20 ⟨⟨v28,v29,rfl,hv28,hv29⟩,hE20⟩
       have Nq:=Pl.Ex.size hE20
       refine ⟨_,rfl,trivial,?_⟩
       refine Pl.aG trivial rfl ?_
       refine Pl.aj ?_
       repeat refine Pl.ay ?_
       refine Pl.ak (by kernel_rfl) ?_
       refine Pl.aG trivial rfl ?_
       refine Pl.az rfl rfl rfl rfl rfl (fun u X=>Pl.enters Tryz.func16 (by kernel_rfl) rfl u X) ?_
       refine Calls.mono (Bg _ _ _ a m _ _ (Un.below hv2 (Pl.Ex.trans bX (Pl.Ex.trans bE (Pl.Ex.trans bu (Pl.Ex.trans cB (Pl.Ex.trans dL (Pl.Ex.trans fu (Pl.Ex.trans cZ (Pl.Ex.trans dw (Pl.Ex.trans fV (Pl.Ex.trans dh (Pl.Ex.trans bZ (Pl.Ex.trans bO (Pl.Ex.trans bH (Pl.Ex.trans bC (Pl.Ex.trans bQ (Pl.Ex.trans bU hE20))))))))))))))))) (Un.below hv4 (Pl.Ex.trans bu (Pl.Ex.trans cB (Pl.Ex.trans dL (Pl.Ex.trans fu (Pl.Ex.trans cZ (Pl.Ex.trans dw (Pl.Ex.trans fV (Pl.Ex.trans dh (Pl.Ex.trans bZ (Pl.Ex.trans bO (Pl.Ex.trans bH (Pl.Ex.trans bC (Pl.Ex.trans bQ (Pl.Ex.trans bU hE20))))))))))))))) (Sn.le la (by decide)) (Sn.le lm (by decide)) (fun h9=>c6 (iU.2 h9)) rfl rfl) ?_
       rintro e w21 ⟨⟨v30,v31,rfl,Ol,hv31⟩,bF⟩
       have K6:=Pl.Ex.size bF
       refine ⟨_,rfl,trivial,?_⟩
       refine Pl.aG trivial rfl ?_
       refine Pl.aj ?_
       repeat refine Pl.ay ?_
       refine Pl.ak (by kernel_rfl) ?_
       refine Pl.aG trivial rfl ?_
       refine Pl.az rfl rfl rfl rfl rfl (fun u X=>Pl.enters Tryz.func16 (by kernel_rfl) rfl u X) ?_
       refine Calls.mono (Bg _ _ _ b n _ _ (Un.below hv3 (Pl.Ex.trans bE (Pl.Ex.trans bu (Pl.Ex.trans cB (Pl.Ex.trans dL (Pl.Ex.trans fu (Pl.Ex.trans cZ (Pl.Ex.trans dw (Pl.Ex.trans fV (Pl.Ex.trans dh (Pl.Ex.trans bZ (Pl.Ex.trans bO (Pl.Ex.trans bH (Pl.Ex.trans bC (Pl.Ex.trans bQ (Pl.Ex.trans bU (Pl.Ex.trans hE20 bF))))))))))))))))) (Un.below hv5 (Pl.Ex.trans cB (Pl.Ex.trans dL (Pl.Ex.trans fu (Pl.Ex.trans cZ (Pl.Ex.trans dw (Pl.Ex.trans fV (Pl.Ex.trans dh (Pl.Ex.trans bZ (Pl.Ex.trans bO (Pl.Ex.trans bH (Pl.Ex.trans bC (Pl.Ex.trans bQ (Pl.Ex.trans bU (Pl.Ex.trans hE20 bF))))))))))))))) (Sn.le lb (by decide)) (Sn.le ln (by decide)) (fun h9=>c9 (iU.2 h9)) rfl rfl) ?_
       rintro e Ye ⟨⟨v32,v33,rfl,hv32,Oj⟩,bg⟩
       have I5:=Pl.Ex.size bg
       refine ⟨_,rfl,trivial,?_⟩
       refine Pl.aG trivial rfl ?_
       refine Pl.aj ?_
       repeat refine Pl.ay ?_
       refine Pl.ak (by kernel_rfl) ?_
       refine Pl.aG trivial rfl ?_
       refine Pl.bV (v:=.bool true) (fun X=>Pl.gL (Pl.e_t (by omega)) X) trivial rfl rfl rfl rfl rfl rfl ?_
       refine Pl.aG trivial rfl ?_
       refine Pl.bV (v:=.bool true) (fun X=>Pl.gL (Pl.e_t (by omega)) X) trivial rfl rfl rfl rfl rfl rfl ?_
       refine Pl.aG trivial rfl ?_
       refine Pl.bV (v:=.bool true) (fun X=>Pl.gL (Pl.e_t (by omega)) X) trivial rfl rfl rfl rfl rfl rfl ?_
       refine Pl.aG trivial rfl ?_
       refine Pl.az rfl rfl rfl rfl rfl (fun u X=>Pl.enters Tryz.func15 (by kernel_rfl) rfl u X) ?_
       refine Calls.mono (mK _ _ _ (z%m) (a%m) (Un.below hv27 (Pl.Ex.trans hE20 (Pl.Ex.trans bF bg))) (Un.below hv31 bg) true (decide_eq_true (Uh (EY (H9 c7) (fun h9=>c6 (iU.2 h9))) (EY (Bp c7) (fun h9=>c9 (iU.2 h9))) rfl qz).1)) ?_
       rintro e Yg ⟨rfl,aY⟩
       have I6:=Pl.Ex.size aY
       refine ⟨_,rfl,trivial,?_⟩
       refine Pl.aG trivial rfl ?_
       refine Pl.az rfl rfl rfl rfl rfl (fun u X=>Pl.enters Tryz.func15 (by kernel_rfl) rfl u X) ?_
       refine Calls.mono (mK _ _ _ (z%n) (b%n) (Un.below hv29 (Pl.Ex.trans bF (Pl.Ex.trans bg aY))) (Un.below Oj aY) true (decide_eq_true (Uh (EY (H9 c7) (fun h9=>c6 (iU.2 h9))) (EY (Bp c7) (fun h9=>c9 (iU.2 h9))) rfl qz).2)) ?_
       rintro e w24 ⟨rfl,mg⟩
       have I7:=Pl.Ex.size mg
       refine ⟨_,rfl,trivial,?_⟩
       refine Pl.aG trivial rfl ?_
       refine Pl.az rfl rfl rfl rfl rfl (fun u X=>Pl.enters Tryz.func17 (by kernel_rfl) rfl u X) ?_
       refine Calls.mono (mulN _ _ _ m n _ (Un.below hv4 (Pl.Ex.trans bu (Pl.Ex.trans cB (Pl.Ex.trans dL (Pl.Ex.trans fu (Pl.Ex.trans cZ (Pl.Ex.trans dw (Pl.Ex.trans fV (Pl.Ex.trans dh (Pl.Ex.trans bZ (Pl.Ex.trans bO (Pl.Ex.trans bH (Pl.Ex.trans bC (Pl.Ex.trans bQ (Pl.Ex.trans bU (Pl.Ex.trans hE20 (Pl.Ex.trans bF (Pl.Ex.trans bg (Pl.Ex.trans aY mg))))))))))))))))))) (Un.below hv5 (Pl.Ex.trans cB (Pl.Ex.trans dL (Pl.Ex.trans fu (Pl.Ex.trans cZ (Pl.Ex.trans dw (Pl.Ex.trans fV (Pl.Ex.trans dh (Pl.Ex.trans bZ (Pl.Ex.trans bO (Pl.Ex.trans bH (Pl.Ex.trans bC (Pl.Ex.trans bQ (Pl.Ex.trans bU (Pl.Ex.trans hE20 (Pl.Ex.trans bF (Pl.Ex.trans bg (Pl.Ex.trans aY mg)))))))))))))))))) (Sn.le lm (by decide)) (Sn.le ln (by decide)) rfl) ?_
       rintro e w25 ⟨v34,rfl,hv34,aja⟩
       have aAx:=Pl.Ex.size aja
       refine ⟨_,rfl,trivial,?_⟩
       refine Pl.az rfl rfl rfl rfl rfl (fun u X=>Pl.enters Tryz.func31 (by kernel_rfl) rfl u X) ?_
       refine Calls.mono (pU _ _ _ z (m*n) (Un.below hv25 (Pl.Ex.trans bU (Pl.Ex.trans hE20 (Pl.Ex.trans bF (Pl.Ex.trans bg (Pl.Ex.trans aY (Pl.Ex.trans mg aja))))))) hv34 _ rfl) ?_
       rintro e w26 ⟨rfl,aoq⟩
       have aAy:=Pl.Ex.size aoq
       refine ⟨_,rfl,trivial,?_⟩
       refine Pl.bV (v:=.bool true) (fun X=>Cm.FH (by rw [← qz];exact Nat.mod_lt _ (Nat.pos_of_ne_zero (Nat.mul_ne_zero (fun h9=>c6 (iU.2 h9)) (fun h9=>c9 (iU.2 h9))))) X) trivial rfl rfl rfl rfl rfl rfl ?_
       refine Pl.aG trivial rfl ?_
       refine Pl.aj ?_
       repeat refine Pl.ay ?_
       exact Pl.bI rfl rfl  (⟨rfl,(Pl.Ex.trans hE1 (Pl.Ex.trans hE2 (Pl.Ex.trans bJ (Pl.Ex.trans bX (Pl.Ex.trans bE (Pl.Ex.trans bu (Pl.Ex.trans cB (Pl.Ex.trans dL (Pl.Ex.trans fu (Pl.Ex.trans cZ (Pl.Ex.trans dw (Pl.Ex.trans fV (Pl.Ex.trans dh (Pl.Ex.trans bZ (Pl.Ex.trans bO (Pl.Ex.trans bH (Pl.Ex.trans bC (Pl.Ex.trans bQ (Pl.Ex.trans bU (Pl.Ex.trans hE20 (Pl.Ex.trans bF (Pl.Ex.trans bg (Pl.Ex.trans aY (Pl.Ex.trans mg (Pl.Ex.trans aja aoq)))))))))))))))))))))))))⟩)
   · refine Pl.az rfl rfl rfl rfl rfl (fun u X=>Pl.enters Tryz.func30 (by kernel_rfl) rfl u X) ?_
     refine Calls.mono (De _ _ _ n m hv5 (Un.below hv4 bu) (Sn.le ln (by decide)) (Sn.le lm (by decide)) (fun h9=>c6 (iU.2 h9)) (aaQ c7)) ?_
     rintro e w7 ⟨rfl,cB⟩
     have zS:=Pl.Ex.size cB
     refine ⟨_,rfl,trivial,?_⟩
     refine Pl.aG trivial rfl ?_
     refine Pl.aj ?_
     repeat refine Pl.ay ?_
     refine Pl.ak (by kernel_rfl) ?_
     refine Pl.aG trivial rfl ?_
     by_cases c8:(limbs n).length=0
     · refine Pl.az rfl rfl rfl rfl rfl (fun u X=>Pl.enters Tryz.func30 (by kernel_rfl) rfl u X) ?_
       refine Calls.mono (xA _ _ _ m n (Un.below hv4 (Pl.Ex.trans bu cB)) (Un.below hv5 cB) (Sn.le lm (by decide)) (Sn.le ln (by decide)) (iU.1 c8)) ?_
       rintro e w8 ⟨rfl,dL⟩
       have xg:=Pl.Ex.size dL
       refine ⟨_,rfl,trivial,?_⟩
       refine Pl.aG trivial rfl ?_
       refine Pl.aj ?_
       repeat refine Pl.ay ?_
       refine Pl.ak (by kernel_rfl) ?_
       refine Pl.aG trivial rfl ?_
       refine Pl.az rfl rfl rfl rfl rfl (fun u X=>Pl.enters Tryz.func22 (by kernel_rfl) rfl u X) ?_
       refine Calls.mono (kY _ _ _ m n (Un.below hv4 (Pl.Ex.trans bu (Pl.Ex.trans cB dL))) (Un.below hv5 (Pl.Ex.trans cB dL)) (Sn.le lm (by decide)) (Sn.le ln (by decide))) ?_
       rintro e w9 ⟨v9,rfl,xk,fu⟩
       have PV:=Pl.Ex.size fu
       refine ⟨_,rfl,trivial,?_⟩
       refine Pl.uR (e := 27) (n:=1) [.int .u32 1] rfl rfl rfl rfl (by kernel_rfl) (fun Y hY=>trivial) ?_
       intro N10 uY cZ aaR rJ
       have JW:=Pl.Cb.lt rJ
       have yH:=Pl.Ex.size cZ
       have LZ:=Un.one (x:=1) rJ rfl (by omega)
       refine Pl.az rfl rfl rfl rfl rfl (fun u X=>Pl.enters Tryz.func15 (by kernel_rfl) rfl u X) ?_
       refine Calls.mono (mK _ _ _ (Nat.gcd m n) 1 (Un.below xk cZ) LZ false (decide_eq_false c7)) ?_
       rintro e BU ⟨rfl,dw⟩
       have xR:=Pl.Ex.size dw
       refine ⟨_,rfl,trivial,?_⟩
       refine Pl.ng (v:=.bool true) trivial rfl rfl rfl rfl rfl (fun X=>rfl) ?_
       refine Pl.aj ?_
       repeat refine Pl.ay ?_
       refine Pl.cK rfl ?_
       repeat refine Pl.ay ?_
       refine Pl.ak (by kernel_rfl) ?_
       refine Pl.aG trivial rfl ?_
       refine Pl.bV (v:=.bool true) (fun X=>Pl.Ue (Pl.n_t (by omega)) X) trivial rfl rfl rfl rfl rfl rfl ?_
       refine Pl.aG trivial rfl ?_
       refine Pl.aj ?_
       repeat refine Pl.ay ?_
       exact Pl.bI rfl rfl  (⟨rfl,(Pl.Ex.trans hE1 (Pl.Ex.trans hE2 (Pl.Ex.trans bJ (Pl.Ex.trans bX (Pl.Ex.trans bE (Pl.Ex.trans bu (Pl.Ex.trans cB (Pl.Ex.trans dL (Pl.Ex.trans fu (Pl.Ex.trans cZ dw))))))))))⟩)
     · refine Pl.az rfl rfl rfl rfl rfl (fun u X=>Pl.enters Tryz.func30 (by kernel_rfl) rfl u X) ?_
       refine Calls.mono (De _ _ _ m n (Un.below hv4 (Pl.Ex.trans bu cB)) (Un.below hv5 cB) (Sn.le lm (by decide)) (Sn.le ln (by decide)) (fun h9=>c8 (iU.2 h9)) (Kg c7)) ?_
       rintro e w8 ⟨rfl,dL⟩
       have xg:=Pl.Ex.size dL
       refine ⟨_,rfl,trivial,?_⟩
       refine Pl.aG trivial rfl ?_
       refine Pl.aj ?_
       repeat refine Pl.ay ?_
       refine Pl.ak (by kernel_rfl) ?_
       refine Pl.aG trivial rfl ?_
       refine Pl.az rfl rfl rfl rfl rfl (fun u X=>Pl.enters Tryz.func22 (by kernel_rfl) rfl u X) ?_
       refine Calls.mono (kY _ _ _ m n (Un.below hv4 (Pl.Ex.trans bu (Pl.Ex.trans cB dL))) (Un.below hv5 (Pl.Ex.trans cB dL)) (Sn.le lm (by decide)) (Sn.le ln (by decide))) ?_
       rintro e w9 ⟨v9,rfl,xk,fu⟩
       have PV:=Pl.Ex.size fu
       refine ⟨_,rfl,trivial,?_⟩
       refine Pl.uR (e := 27) (n:=1) [.int .u32 1] rfl rfl rfl rfl (by kernel_rfl) (fun Y hY=>trivial) ?_
       intro N10 uY cZ aaR rJ
       have JW:=Pl.Cb.lt rJ
       have yH:=Pl.Ex.size cZ
       have LZ:=Un.one (x:=1) rJ rfl (by omega)
       refine Pl.az rfl rfl rfl rfl rfl (fun u X=>Pl.enters Tryz.func15 (by kernel_rfl) rfl u X) ?_
       refine Calls.mono (mK _ _ _ (Nat.gcd m n) 1 (Un.below xk cZ) LZ false (decide_eq_false c7)) ?_
       rintro e BU ⟨rfl,dw⟩
       have xR:=Pl.Ex.size dw
       refine ⟨_,rfl,trivial,?_⟩
       refine Pl.ng (v:=.bool true) trivial rfl rfl rfl rfl rfl (fun X=>rfl) ?_
       refine Pl.aj ?_
       repeat refine Pl.ay ?_
       refine Pl.cK rfl ?_
       repeat refine Pl.ay ?_
       refine Pl.ak (by kernel_rfl) ?_
       refine Pl.aG trivial rfl ?_
       refine Pl.bV (v:=.bool true) (fun X=>Pl.Ue (Pl.n_t (by omega)) X) trivial rfl rfl rfl rfl rfl rfl ?_
       refine Pl.aG trivial rfl ?_
       refine Pl.aj ?_
       repeat refine Pl.ay ?_
       exact Pl.bI rfl rfl  (⟨rfl,(Pl.Ex.trans hE1 (Pl.Ex.trans hE2 (Pl.Ex.trans bJ (Pl.Ex.trans bX (Pl.Ex.trans bE (Pl.Ex.trans bu (Pl.Ex.trans cB (Pl.Ex.trans dL (Pl.Ex.trans fu (Pl.Ex.trans cZ dw))))))))))⟩)
end Go.Proofs.YtfhcmggpojhegaaGreatDoor
namespace Go.Proofs.YtfhcmggpojhegaaGreatDoor
open Go.ChangeShapes Go.WideShapes Go.ChangeAt Go.RowKit
set_option linter.all false
set_option maxRecDepth 100000
set_option maxHeartbeats 8000000
abbrev jo:List (String × DataW Unit):=[("unicode/utf8.acceptRanges",Rows.laid_unicode_utf8_acceptRanges),("ziggurat/ntt.fields",Rows.laid_ziggurat_ntt_fields),("unicode/utf8.first",Rows.laid_unicode_utf8_first)]
theorem qI (os:Os) (args:Array Value):laidMetH Tryz.prog jo ((World.laidAll Tryz.prog os jo).forCall (fun _ _=>0) ⟨#[],args,[]⟩).memory:=by
 rw [MakeChecks.laidMetH_plain _ _ _ (by kernel_rfl)]
 exact laidMet_laidAll _ (by kernel_rfl) (by kernel_rfl)
end Go.Proofs.YtfhcmggpojhegaaGreatDoor
namespace Go.Proofs.YtfhcmggpojhegaaGreatDoor
open Go.ChangeShapes Go.WideShapes Go.ChangeAt Go.RowKit
set_option linter.all false
set_option maxRecDepth 100000
set_option maxHeartbeats 8000000
theorem Wq {H:Type} {enc:TypeId × Value→H} {W:World} {base:Nat} {v:Value} {d:DataW H} {ps:List MemPlace} (hval:Value.okWide Tryz.prog W .any base 43 v) (h:DataW.Trod enc Tryz.prog W 0 (fun _=>true) true 43 v d ps)
  (hlt:∀ p∈ps,p.block<W.heap.size):∃ (va vb vc vd:Value) (xs ys zs ts:List Nat),v = .agg #[va,vb,vc,vd]∧U W va xs∧U W vb ys∧U W vc zs∧U W vd ts:=by
 obtain ⟨cs,rfl,hsz⟩:=kL Tryz.underlying43 hval
 rw [show Tryz.prog.cellsOf 43 = 4 by kernel_rfl] at hsz
 obtain ⟨l⟩:=cs
 match l,hsz with
 | [c0,c1,c2,c3],_ =>
  obtain ⟨fuel,hf⟩:=h
  obtain ⟨ys,m1,rfl,hx1,hlen,hn,hel⟩:=DataW.trod_array Tryz.underlying43 hf
  simp only [show Tryz.prog.cellsOf 22 = 1 by kernel_rfl] at hel
  match ys,hn,hel with
  | [y0,y1,y2,y3],_,hel =>
   have e0:=hel 0 (by decide)
   have e1:=hel 1 (by decide)
   have e2:=hel 2 (by decide)
   have e3:=hel 3 (by decide)
   simp at e0 e1 e2 e3
   obtain ⟨VS,u0⟩:=fC e0
   obtain ⟨VT,u1⟩:=fC e1
   obtain ⟨xs2,u2⟩:=fC e2
   obtain ⟨xs3,u3⟩:=fC e3
   exact ⟨c0,c1,c2,c3,VS,VT,xs2,xs3,rfl,u0,u1,u2,u3⟩
end Go.Proofs.YtfhcmggpojhegaaGreatDoor
namespace Go.Proofs.YtfhcmggpojhegaaGreatDoor
open Go.ChangeShapes Go.WideShapes Go.ChangeAt Go.RowKit
set_option linter.all false
set_option maxRecDepth 100000
set_option maxHeartbeats 8000000
theorem Bt (os:Os) (started:os.Started) (H:Type) (enc:TypeId × Value→H) :
  ReturnsInHanded {} Tryz.checked os 6 .any (fun w args=>(Rows.topChineseSpec.pre enc Tryz.prog Tryz.f6 [] false w args∧laidMetH Tryz.prog jo w)∧sizedMet enc Tryz.prog Tryz.f6 (OpenSpec.ofChange Rows.topChineseSpec) false w args)
   (Rows.topChineseSpec.post enc Tryz.prog Tryz.f6 false true false false):=by
 refine returnsInHanded_of_change_and (C:=Tryz.checked) (X:=fun w _=>laidMetH Tryz.prog jo w) (fun _ _ _ hh h=>h.of_heap hh) own started (by kernel_rfl) Tryz.func6
  (ChangeSpec.witness_shaped (enc:=enc) (C:=Tryz.checked) (os:=os) (X:=fun w _=>laidMetH Tryz.prog jo w) false (World.laidAll Tryz.prog os jo) #[.agg #[.slice none 0 0,.slice none 0 0,.slice none 0 0,.slice none 0 0]] 8 (World.laidAll_os _ _ _) (World.shaped_of_ZipB (by kernel_rfl) (by kernel_rfl)) (by kernel_rfl) (by kernel_rfl) (by kernel_rfl) (qI os _)) ?_
 intro W base args ds gs before hval0 hW _ _ hL _
 have hval:∀ (j:Nat) t v,Tryz.f6.params[j]?=some t→args[j]?=some v→Value.okWide Tryz.prog W .any base t v:=hval0
 have hW':=hW
 obtain ⟨p,q,uo,hV,rfl,hfz,hnd⟩:=hW
 have hlt:∀ x∈p++q,x.block<W.heap.size:=fun x hx=>hW'.lt x hx
 have hA:DataW.TrodAll enc Tryz.prog W 0 (fun _=>true) true Tryz.f6.params.toList args.toList ds p:=uo
 rw [Tryz.params6] at hA hval
 clear uo hval0
 obtain ⟨v0,vs0,d0,ds0,p0,q0,Q6,rfl,rfl,h0,r0⟩:=trodAll_cons hA
 obtain ⟨hn1,rfl,rfl⟩:=trodAll_nil r0
 subst hn1
 obtain rfl:args=#[v0]:=by cases args;simp_all
 obtain ⟨rfl,rfl⟩:=trodVars_none hV
 obtain ⟨r0a,r0b,r0c,r0d,x0a,x0b,x0c,x0d,hv0,u0a,u0b,u0c,u0d⟩:=Wq (hval 0 43 v0 rfl rfl) h0 (fun x hx=>hlt x (by simp [hx]))
 subst hv0
 refine (Ew W _ _ u0a _ _ u0b _ _ u0c _ _ u0d).mono fun e W' ⟨he,hB⟩=>?_
 subst he
 exact ⟨_,rfl,qc hW' rfl (by rw [Tryz.params6];decide +kernel) rfl rfl rfl rfl hB⟩
theorem Ey:Rows.TopChineseSaid :=
 OpenClaim.holds_of_wide 6 Tryz.f6 rfl rfl rfl rfl rfl rfl rfl ⟨rfl,rfl,rfl,rfl,rfl⟩ rfl rfl rfl rfl rfl (by kernel_rfl) Tryz.func6 (by kernel_rfl)
  (of_decide_eq_true (by kernel_rfl)) (by unfold Func.isWrapper;first | (rw [if_pos (by decide +kernel)];kernel_rfl) | (rw [if_neg (by decide +kernel)];exact ⟨rfl,rfl⟩))
  (fun os started H enc _=>Bt os started H enc)
theorem topChinese_holds:Rows.TopChineseCardSaid :=
 Claim7.holds_tied_plain_at .later [] [.data,.wider,.pinned] true Rows.topChineseCard.stood.harness false
  Ey (fun _ h=>by cases h) (by kernel_rfl) (fun _ h=>by cases h) topChinese_row_tie rfl ⟨rfl,rfl⟩ (by kernel_rfl) rfl
  (fun f fn hf hfn=>by
   obtain rfl:f = 6 := Option.some.inj ((show Tryz.prog.funcNamed "ziggurat/ziggurattop.TopChinese" = some 6 by kernel_rfl).symm.trans hf) |>.symm
   obtain rfl:fn=Tryz.f6 := (Option.some.inj (Tryz.func6.symm.trans hfn)).symm
   exact ⟨by kernel_rfl,fun j t ht=>by
    rw [Tryz.params6] at ht
    have hm:t∈[43]:=by simpa using Array.mem_of_getElem? ht
    have hall:([43].all fun u=>!Tryz.prog.wantsStandIn u)=true:=by kernel_rfl
    exact (show Tryz.prog.wantsStandIn t=false by simpa using List.all_eq_true.1 hall t hm)⟩)
  (by kernel_rfl)
end Go.Proofs.YtfhcmggpojhegaaGreatDoor
