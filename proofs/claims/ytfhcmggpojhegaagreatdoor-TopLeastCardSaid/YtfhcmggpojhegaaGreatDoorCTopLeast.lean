/- TopLeast, and what it leans on beyond the base. -/
import Derived.Test.YtfhcmggpojhegaaGreatDoorBaa
import Derived.Test.YtfhcmggpojhegaaGreatDoorBab
import Derived.Test.YtfhcmggpojhegaaGreatDoorBac
import Derived.Test.YtfhcmggpojhegaaGreatDoorBad
import Derived.Test.YtfhcmggpojhegaaGreatDoorBag
import Derived.Test.YtfhcmggpojhegaaGreatDoorBah
import Derived.Test.YtfhcmggpojhegaaGreatDoorBaf
import Derived.Test.YtfhcmggpojhegaaGreatDoorBak
import Derived.Test.YtfhcmggpojhegaaGreatDoorBaj
import Derived.Test.YtfhcmggpojhegaaGreatDoorBan
import Derived.Test.YtfhcmggpojhegaaGreatDoorBam
import Derived.Test.YtfhcmggpojhegaaGreatDoorBao
import Derived.Test.YtfhcmggpojhegaaGreatDoorBaq
import Derived.Test.YtfhcmggpojhegaaGreatDoorBas
import Derived.Test.YtfhcmggpojhegaaGreatDoorBat
import Derived.Test.YtfhcmggpojhegaaGreatDoorBar
import Derived.Test.YtfhcmggpojhegaaGreatDoorBav
import Derived.Test.YtfhcmggpojhegaaGreatDoorBax
import Derived.Test.YtfhcmggpojhegaaGreatDoorBbb
import Derived.Test.YtfhcmggpojhegaaGreatDoorBbg
import Derived.Test.YtfhcmggpojhegaaGreatDoorBau
import Derived.Test.YtfhcmggpojhegaaGreatDoorBbe
import Derived.Test.YtfhcmggpojhegaaGreatDoorBbf
import Derived.Test.YtfhcmggpojhegaaGreatDoorBbc
import Derived.Deep.RegionHeld3
import Derived.BigCall
import Derived.Deep.MidRow
import Derived.Deep.WholeRow
import Derived.Laws.CopyOwn
import Derived.WalkKit
import Derived.Laws.EntriesVeiled
import Derived.Deep.AppendSrc
import Derived.Lib.AppendZeros
import Derived.Laws.IdiomStrings
import Derived.Laws.StructEq
import Derived.RangeFuncSeq
import Derived.RangeFuncLeaves
import Derived.OrdersIn
import Derived.TacticsIn
import Derived.Below
import Derived.Laws.OwnMore
import Derived.Laws.AppendOwn
import Derived.Laws.BitsAllLaws
import Derived.Laws.Bits64
import Derived.Deep.AppendLies
import Derived.Deep.Draws
import Derived.Lib.Hide
import Derived.OwnWalk
import Derived.ProofKit
import Derived.OpenShut
import Derived.JoinedCond
import Derived.RegionTactic
import Derived.LoopTactic
import Derived.BigQuiet
import Derived.Deep.QuietTactic
import Derived.Outline
import Derived.SevenTiedAt
import Derived.LaidMore
import Derived.Stop.Joined
import Derived.JoinedOf
import Derived.JoinedAt
import Derived.Lib.SmallJoins
import Derived.Laws.IdiomArrays
import Derived.WideKeyPair
import Derived.WideKeyArr2
import Derived.Scope
import Derived.Deep.OwnRows
import Derived.Deep.Cut
import Derived.Lay
import Derived.LaidOnce

namespace Go.Proofs.YtfhcmggpojhegaaGreatDoor.Pl
open Go
set_option linter.all false
set_option maxRecDepth 100000
set_option maxHeartbeats 8000000
/-! Which orders a drawn region allows, by masks of bits: one check for the whole region. -/
section
variable {P:Program} {ops:Array Oper} {Q:Exit→Act→World→Prop} {S:World→Prop}
def ry (M:Nat) (rs:List Nat):List Tb→Nat→Bool
 | [],_=>true
 | t::l,j=>(rs.elem j||tb M j||!(Nat.beq (Nat.land t.A M) t.A))&&ry M rs l (j+1)
def rA (T:List Tb) (M i:Nat):Bool:=match T[i]? with
 | none=>false
 | some t=>!(tb M i)&&Nat.beq (Nat.land t.A M) t.A
def vS (T:List Tb) (M:Nat) (rs:List Nat):Bool:=ry M rs T 0&&(match rs with
 | []=>false
 | i::_=>rA T M i)
theorem kK {M:Nat} {rs:List Nat}:∀ (l:List Tb) (j:Nat),ry M rs l j=true→∀ (k:Nat) (t:Tb),l[k]?=some t→M.testBit (j+k)=false→Nat.beq (Nat.land t.A M) t.A=true→j+k∈rs
 | [],_,_,k,t,h,_,_=>by simp at h
 | x::l,j,h,k,t,hk,hM,hA=>by
  rw [ry,Bool.and_eq_true] at h
  cases k with
  | zero =>
   obtain rfl:x=t:=by simpa using hk
   rw [Nat.add_zero] at hM ⊢
   have h1:=h.1
   rw [yh,hM,hA,Bool.or_false,Bool.not_true,Bool.or_false] at h1
   simpa using h1
  | succ k =>
   have hs:j+(k+1)=(j+1)+k:=by omega
   rw [hs] at hM ⊢
   exact kK l (j+1) h.2 k t (by simpa using hk) hM hA
end
end Go.Proofs.YtfhcmggpojhegaaGreatDoor.Pl
namespace Go.Proofs.YtfhcmggpojhegaaGreatDoor.Pl
open Go
set_option linter.all false
set_option maxRecDepth 100000
set_option maxHeartbeats 8000000
/-! A region walked by a plan, its frame a list of what is known of it. -/
section
variable {P:Program} {L:List Oper} {S:World→Prop} {K:List (Nat × Value)→World→Prop} {Q:Exit→Act→World→Prop} {n f:Nat} {ds:List Deferred}
def qb (P:Program) (L:List Oper) (S:World→Prop) (Q:Exit→Act→World→Prop) (n:Nat) (ds:List Deferred) (f M:Nat) (l:List (Nat × Value)) (w:World):List Nat→Prop
 | []=>True
 | i::rs=>dO P L S (G P L S Q n ds f (Nat.lor M (Nat.shiftLeft 1 i))) ((false,i,M)::[]) l w∧qb P L S Q n ds f M l w rs
theorem oD {M:Nat} {l:List (Nat × Value)} {w:World}:∀ {rs:List Nat},qb P L S Q n ds f M l w rs→∀ i∈rs,dO P L S (G P L S Q n ds f (Nat.lor M (Nat.shiftLeft 1 i))) ((false,i,M)::[]) l w
 | [],_,i,hi=>by cases hi
 | j::rs,h,i,hi=>by
  rcases List.mem_cons.1 hi with rfl | hi
  · exact h.1
  · exact oD h.2 i hi
theorem NN (hd:∀ i o d,nth L i=some o→o.dst=some d→d<n) {M:Nat} {l:List (Nat × Value)} {w:World} (rs:List Nat) (hr:vS (tabs L.toArray) M rs=true) (h:qb P L S Q n ds f M l w rs):G P L S Q n ds (f+1) M l w:=by
 intro a listed ha hL hS
 unfold vS at hr
 rw [Bool.and_eq_true] at hr
 refine ⟨fun h0=>?_,fun j hj=>?_⟩
 · cases rs with
   | nil=>cases hr.2
   | cons i rs =>
    have h2:=hr.2
    simp only [rA] at h2
    cases ht:(tabs L.toArray)[i]? with
    | none=>rw [ht] at h2;cases h2
    | some t =>
     obtain ⟨o,ho,rfl⟩:=Ah ht
     rw [ht] at h2
     simp only [Bool.and_eq_true,Bool.not_eq_true'] at h2
     rw [yh] at h2
     have hin:i∈Region.ready .any L.toArray listed:=(kX (n:=0) hL).2 ⟨o,ho,h2.1,h2.2⟩
     rw [h0] at hin;cases hin
 · obtain ⟨o,ho,h1,h2⟩:=(kX (n:=0) hL).1 hj
   have hoi:nth L j=some o:=by rw [p9,← List.getElem?_toArray];exact ho
   have hlt:j<L.toArray.size:=(Array.getElem?_eq_some_iff.1 ho).1
   have hm:=kK (tabs L.toArray) 0 hr.1 j _ (Ae ho) (by rw [Nat.zero_add];exact h1) h2
   rw [Nat.zero_add] at hm
   exact Ai (k:=false) (m:=M) (hd j o · hoi) hoi ha hS (oD h j hm) (fun a l w ha hS h=>h a _ ha (hL.put hlt) hS)
end
end Go.Proofs.YtfhcmggpojhegaaGreatDoor.Pl
namespace Go.Proofs.YtfhcmggpojhegaaGreatDoor.Pl
open Go
set_option linter.all false
set_option maxRecDepth 100000
set_option maxHeartbeats 8000000
/-! A function without loops, walked with its frame as a list of what is known. -/
section
variable {P:Program} {Q:Exit→Act→World→Prop} {n:Nat} {ds:List Deferred} {cs:List Code} {l:List (Nat × Value)} {w:World} {x y:Code}
theorem aR {L:List Oper} {S:World→Prop} {f M:Nat}:qb P L S Q n ds f M l w []:=trivial
theorem aC {L:List Oper} {S:World→Prop} {f M i:Nat} {rs:List Nat} (h:dO P L S (G P L S Q n ds f (Nat.lor M (Nat.shiftLeft 1 i))) ((false,i,M)::[]) l w) (hs:qb P L S Q n ds f M l w rs):qb P L S Q n ds f M l w (i::rs):=⟨h,hs⟩
theorem bN {L:List Oper} {S:World→Prop} {f M:Nat} {Q:Exit→Act→World→Prop} (l':List (Nat × Value)) (hl:I9 l l') (h:G P L S Q n ds f M l' w):G P L S Q n ds f M l w:=fun a listed ha hL hS=>h a listed (ha.less (pO hl)) hL hS
theorem oN {L:List Oper} {S:World→Prop} {g M:Nat} {Q:Exit→Act→World→Prop} (f e:Nat) (R:List (Nat × Value)→World→Prop) (h1:∀ l' w',R l' w'→G P L S Q n ds f e l' w') (h2:(∀ l' w',R l' w'→G P L S Q n ds f e l' w')→G P L S Q n ds g M l w):G P L S Q n ds g M l w:=h2 h1
def rC (n:Nat) (L:List Oper):Bool:=Region.noSelect L.toArray&&vI n L
theorem aM {L:List Oper} {S:World→Prop} {M:Nat} (r:List (Bool × Nat × Nat)) (e f:Nat) {g:Nat} (hQ:∀ c (d:Option Tmp) v a w,Q (.panic c) (a.put d v) w→Q (.panic c) a w) (hk:rC n L=true) (hg:Nat.beq (Nat.add r.length f) g=true)
  (hp:yN (tabs L.toArray) e r M=true) (h:dO P L S (G P L S (Ks P Q cs) n ds f e) r l w):G P L S (Ks P Q cs) n ds g M l w:=by
 rw [rC,Bool.and_eq_true] at hk
 have:=Nw (f:=f) hk.1 (fun c d v a w hq=>kI.2 (hQ c d v a w (kI.1 hq))) (ji hk.2) r M l w hp h
 rwa [show r.length+f=g from (beq_iff _ _).1 hg] at this
theorem bS {L:List Oper} {S:World→Prop} {M:Nat} (rs:List Nat) (f:Nat) {g:Nat} (hk:rC n L=true) (hg:Nat.beq (Nat.succ f) g=true) (hr:vS (tabs L.toArray) M rs=true) (h:qb P L S (Ks P Q cs) n ds f M l w rs):G P L S (Ks P Q cs) n ds g M l w:=by
 rw [rC,Bool.and_eq_true] at hk
 have:=NN (ji hk.2) rs hr h
 rwa [show f+1=g from (beq_iff _ _).1 hg] at this
open Classical in
end
section
variable {P:Program} {L:List Oper} {S:World→Prop} {K:List (Nat × Value)→World→Prop} {k:Bool} {i m d:Nat} {o:Oper} {r:List (Bool × Nat × Nat)} {l:List (Nat × Value)} {w w':World} {v:Value}
end
end Go.Proofs.YtfhcmggpojhegaaGreatDoor.Pl
namespace Go.Proofs.YtfhcmggpojhegaaGreatDoor.Pl
open Go
set_option linter.all false
set_option maxRecDepth 100000
set_option maxHeartbeats 8000000
/-! Steps for any program: numbers, slices, memory. -/
section
variable {P:Program} {T:TypeId} {x y:Operand} {k k':IntKind} {a b c:Int} {v:Bool}
end
section
variable {P:Program} {T:TypeId} {x y:Operand} {a b c:Nat}
end
/-! Operations whose value follows from what is known alone. -/
section
variable {P:Program} {L:List Oper} {S:World→Prop} {K:List (Nat × Value)→World→Prop} {k:Bool} {i m d:Nat} {o:Oper} {r:List (Bool × Nat × Nat)} {l:List (Nat × Value)} {w w':World} {v:Value}
theorem sU {x y:Operand} {t e:TypeId} {ad:Addr} {n j s:Nat} {z:Int} {kd:IntKind} (hu:P.underlying t=some (.array n e)) (hs:(P.info? e).map (·.size)=some s) (hz:z=(j:Int)) (hj:j<n) (hS:S w) (ho:nth L i=some o) (hop:o.op = .indexAddr t x y) (hd:o.dst=some d) (hg:gd L l o.guard=some true)
  (hx:dF l x=some (.pointer (some ad))) (hy:dF l y=some (.int kd z)) (h:dO P L S K r ((d,.pointer (some (ad.add (j*s))))::l) w):dO P L S K ((k,i,m)::r) l w :=
 dB hS ho hd hg (fun ρ hρ X _=>by
  subst hz
  unfold execOp;rw [hop]
  refine fJ _ X ?_
  rw [hρ.dF hx,hρ.dF hy]
  have h0:(0:Int)≤(j:Int)∧(j:Int)<(n:Int):=by omega
  obtain ⟨inf,hi,hz⟩:=Option.map_eq_some_iff.1 hs
  subst hz
  simp [Instr.indexAt,run_underlying hu,asIntOf,h0,hj,sizeOf,typeInfo,hi,Result.andThen,Instr.sureAddr]) h
end
end Go.Proofs.YtfhcmggpojhegaaGreatDoor.Pl
namespace Go.Proofs.YtfhcmggpojhegaaGreatDoor.Pl
open Go Go.RowKit
set_option linter.all false
set_option maxRecDepth 100000
set_option maxHeartbeats 8000000
/-! Memory: variables, slices that are read, rows that grow, what is kept. -/
section
variable {P:Program}
end
section
variable {P:Program} {ok:Value→Prop} {w w':World} {base:Nat} {e:TypeId} {size:Nat} {v:Value} {n:Nat} {xs:List Value}
end
section
variable {P:Program} {L:List Oper} {S:World→Prop} {K:List (Nat × Value)→World→Prop} {k:Bool} {i m d:Nat} {o:Oper} {x y:Operand} {r:List (Bool × Nat × Nat)} {l:List (Nat × Value)} {w w':World} {v:Value}
theorem AR {T:TypeId} {u:Value} {cs:List Value} (ho:nth L i=some o) (hp:o.op = .box T x) (hd:o.dst=some d) (hg:gd L l o.guard=some true) (hx:dF l x=some u) (hc:u.cells=cs.toArray) (hS:∀ Y,Ex w Y→S Y)
  (h:∀ N w',Ex w w'→N=w.heap.size→Cb w' N T cs→dO P L S K r ((d,.pointer (some ⟨N,0,none⟩))::l) w'):dO P L S K ((false,i,m)::r) l w:=by
 have e1:=Ex.alloc w (.cells cs.toArray T)
 refine mh (w':=w.alloc (.cells cs.toArray T)) (v:=.pointer (some ⟨w.heap.size,0,none⟩)) ho hd hg (fun ρ hρ=>?_) (hS _ e1) (h _ _ e1 rfl (Cb.new w T cs))
 unfold execOp;rw [hp]
 refine kJ _ ?_
 rw [hρ.dF hx]
 simp [Instr.box,Sem.run_bind,newVar,newRow,hc]
end
end Go.Proofs.YtfhcmggpojhegaaGreatDoor.Pl
namespace Go.Proofs.YtfhcmggpojhegaaGreatDoor.Pl
open Go
set_option linter.all false
set_option maxRecDepth 100000
set_option maxHeartbeats 8000000
/-! Ranges over functions: code inside a round, calls of yield, the statement itself. -/
section
variable {P:Program} {Q:Exit→Act→World→Prop} {ro:Option Nat} {n:Nat} {ds:List Deferred} {cs:List Code} {l:List (Nat × Value)} {w:World} {x y:Code}
/-! A loop of few rounds, one round after another. -/
theorem wO {c:Code} {k:Nat} (h:V P (Exit.then (fun a' w'=>∃ l',Ag n ds a' l'∧Unr P Q n ds cs c k l' w') (Ks P Q cs)) n ds [c] l w):Unr P Q n ds cs c (k+1) l w:=h
theorem wP {c:Code} {k:Nat} {Q':Exit→Act→World→Prop} (h:Unr P Q n ds cs c k l w):V P (Exit.then (fun a' w'=>∃ l',Ag n ds a' l'∧Unr P Q n ds cs c k l' w') Q') n ds [] l w:=fun a ha=>⟨l,ha,h⟩
/-! A return from inside of loops and blocks. -/
/-! Operations. -/
end
section
variable {P:Program} {L:List Oper} {S:World→Prop} {K:List (Nat × Value)→World→Prop} {Q:Exit→Act→World→Prop} {ro:Option Nat} {n f:Nat} {ds:List Deferred}
end
section
variable {P:Program} {Q:Exit→Act→World→Prop} {n:Nat} {ds:List Deferred} {cs:List Code} {l:List (Nat × Value)} {w:World}
end
end Go.Proofs.YtfhcmggpojhegaaGreatDoor.Pl
namespace Go.Proofs.YtfhcmggpojhegaaGreatDoor.Pl
open Go Go.RowKit
set_option linter.all false
set_option maxRecDepth 100000
set_option maxHeartbeats 8000000
/-! Small laws for the walk's printer (sx.py). -/
theorem e_f {a b:Int} (h:a≠b):(a==b)=false:=beq_false_of_ne h
section
variable {P:Program} {T:TypeId} {x y:Operand} {a b c:Nat} {za zb:Int}
end
section
variable {P:Program} {T:TypeId} {x y:Operand}
end
section
variable {P:Program} {n:Nat} {cs:List Code} {l:List (Nat × Value)} {w:World} {fn:Func} {R:Ending→World→Prop} {t t2 t3:Tmp} {N N2 N3:Nat} {ty ty2 ty3:TypeId} {v v2 v3:Value}
end
end Go.Proofs.YtfhcmggpojhegaaGreatDoor.Pl
namespace Go.Proofs.YtfhcmggpojhegaaGreatDoor
open Go.RowKit
set_option linter.all false
set_option maxRecDepth 100000
set_option maxHeartbeats 8000000
theorem gY {P:Program} (w:World) (base:Nat) (t ty e:TypeId) (i:TypeInfo) (size:Nat) (ht:P.underlying t=some (.slice e)) (hi:P.info? e=some i)
  (v:Value) (n c:Nat) (xs:List Value) (hown:w.ownsRow base e size v n xs) :
  (Builtin.append_ #[t,t] ty #[v,.slice none 0 c]).run P w = .ok v w:=by
 rcases hown.2 with ⟨rfl,rfl⟩ | ⟨g,cap,cur,rfl,_,_,hnc,_⟩
 · simp [Builtin.append_,run_underlying ht,sizeOf,typeInfo,hi,Builtin.lenOf,Builtin.firstCells]
 · simp [Builtin.append_,run_underlying ht,sizeOf,typeInfo,hi,Builtin.lenOf,Builtin.firstCells,hnc,storeCells]
theorem jP (w:World) (base:Nat) (v:Value) (o:List Nat) (hown:Own w base v o) (x:Value) (ys:List Nat) (hx:U w x ys) (hlen:o.length+ys.length≤35184372088832) (hbase:base≤w.heap.size) :
  ∃ v' w',(Builtin.append_ #[22,22] 22 #[v,x]).run Tryz.prog w = .ok v' w'∧Own w' base v' (o++ys)∧w.grownBy w' v.ownBlock:=by
 obtain ⟨i0,hi,hz0,hz1,hz2⟩:=info_parts pR
 obtain ⟨A,c,rfl,⟨h1,h2⟩,hlt,hr⟩:=hx
 cases A with
 | none =>
  have h0:ys.length=0:=by
   rcases Nat.eq_zero_or_pos ys.length with h0 | h0
   · exact h0
   · obtain ⟨ad,h,_⟩:=hr h0;cases h
  obtain rfl:=List.eq_nil_of_length_eq_zero h0
  refine ⟨v,w,gY w base 22 22 27 i0 1 Tryz.underlying22 hi v _ c _ hown,by rw [List.append_nil];exact hown,World.grownBy.refl w _⟩
 | some ad =>
  have hcells:∀ j u,(mX ys)[j]?=some u→w.cell? (ad.add j)=some u:=fun j u hj=>by
   have hjl:j<ys.length:=by
    rcases Nat.lt_or_ge j ys.length with h | h
    · exact h
    · rw [List.getElem?_eq_none (by rw [eG];exact h)] at hj;cases hj
   obtain ⟨afR,e',_,hcell⟩:=hr (by omega)
   replace e':=Option.some.inj e'
   subst e'
   rw [hcell j hjl,← qX ys hjl,hj]
  obtain ⟨v',w',hrun,hown',hg,_⟩:=run_append_own (P:=Tryz.prog) w base 22 22 27 i0 (.int .u32 0) 1 4 Tryz.underlying22 hi hz0 hz1 hz2 rfl (by decide) v o.length (mX o) hown ad ys.length c (mX ys) (by rw [eG,Nat.mul_one]) hcells
   (by intro u hu;obtain ⟨z,_,rfl⟩:=List.mem_map.1 hu;rfl) (by unfold maxLen;omega) (by omega) hbase
  exact ⟨v',w',hrun,by unfold Own;rw [jM,List.length_append];exact hown',hg⟩
end Go.Proofs.YtfhcmggpojhegaaGreatDoor
namespace Go.Proofs.YtfhcmggpojhegaaGreatDoor
open Go.RowKit
set_option linter.all false
set_option maxRecDepth 100000
set_option maxHeartbeats 8000000
theorem Q8 (b O b2 R Y:Nat) (hO:0<O) (hb:b/O+1=b2) (h:R*b2≤Y):R*b≤Y*O:=by
 have h1:b≤b2*O:=by
  have:=Nat.lt_mul_div_succ b hO
  rw [Nat.mul_comm,← hb]
  omega
 have h2:R*b≤R*(b2*O):=Nat.mul_le_mul_left R h1
 have h3:R*b2*O≤Y*O:=Nat.mul_le_mul_right O h
 rw [Nat.mul_assoc] at h3
 omega
theorem Z0 (a b S1 K1 R q:Nat) (hS:0<S1) (hK:0<K1) (hR:R*b≤S1*K1) (hq:a/S1*R/K1=q):q*b≤a:=by
 have h1:q*K1≤a/S1*R:=by rw [← hq];exact Nat.div_mul_le_self _ _
 have h2:q*K1*b≤a/S1*R*b:=Nat.mul_le_mul_right b h1
 have h3:a/S1*(R*b)≤a/S1*(S1*K1):=Nat.mul_le_mul_left _ hR
 have h4:a/S1*S1*K1≤a*K1:=Nat.mul_le_mul_right K1 (Nat.div_mul_le_self _ _)
 rw [← Nat.mul_assoc,← Nat.mul_assoc] at h3
 refine Nat.le_of_mul_le_mul_right (c:=K1) ?_ hK
 rw [Nat.mul_right_comm]
 omega
end Go.Proofs.YtfhcmggpojhegaaGreatDoor
namespace Go.Proofs.YtfhcmggpojhegaaGreatDoor
open Go.ChangeShapes Go.WideShapes Go.ChangeAt Go.RowKit
set_option linter.all false
set_option maxRecDepth 100000
set_option maxHeartbeats 8000000
theorem laidOut:laidOutB Tryz.prog=true:=by kernel_rfl
theorem rD:Tryz.prog.cellsOf 27 = 1:=by kernel_rfl
theorem fD {H:Type} {enc:TypeId × Value→H} {W W':World} {sp:Nat→Bool} (hB:Ext W W'):∀ {ts:List TypeId} {vs:List Value} {ds:List (DataW H)} {ps:List MemPlace},
  (∀ t∈ts,Tryz.prog.readableRec t=true∧t<Tryz.prog.types.size)→DataW.TrodAll enc Tryz.prog W 0 (fun _=>true) true ts vs ds ps→(∀ p∈ps,p.block<W.heap.size)→(∀ p∈ps,sp p.block=true)→DataW.TrodAll enc Tryz.prog W' 0 sp true ts vs ds ps
 | [],[],[],_,_,h,_,_=>h
 | t::_,_::_,_::_,_,hT,⟨p,q,h1,h2,e⟩,hlt,hs=>⟨p,q,
  WideElems.Trod_stays laidOut (hT t (List.mem_cons_self ..)).1 (hT t (List.mem_cons_self ..)).2 h1 (fun x hx=>Below.same hB (hlt x (by rw [e];exact List.mem_append_left _ hx))) (fun x hx=>hs x (by rw [e];exact List.mem_append_left _ hx)),
  fD hB (fun t ht=>hT t (List.mem_cons_of_mem _ ht)) h2 (fun x hx=>hlt x (by rw [e];exact List.mem_append_right _ hx)) (fun x hx=>hs x (by rw [e];exact List.mem_append_right _ hx)),e⟩
theorem qc {H:Type} {enc:TypeId × Value→H} {f:Func} {s:ChangeSpec} {apart fresh handsOn again:Bool} {W W':World} {args:Array Value} {ds gs:List (DataW H)} {before:List MemPlace}
  (hW:DataW.Whole enc Tryz.prog f.params.toList s.vars apart W args.toList ds gs before) (hv:s.vars=[]) (hT:∀ t∈f.params.toList,Tryz.prog.readableRec t=true∧t<Tryz.prog.types.size)
  (hres:f.resultTypes=#[4]) (hfn:(s.fn H (ds++gs)).results=[.lit (.bool true)]) (hfa:(s.fn H (ds++gs)).args=ds) (Xe:(s.fn H (ds++gs)).vars=[]) (hB:Ext W W') :
  s.post enc Tryz.prog f apart fresh handsOn again W args (.bool true) W':=by
 have hlt:∀ p∈before,p.block<W.heap.size:=fun p hp=>hW.lt p hp
 have hold:∀ p∈before,(fun b=>decide (b<W.heap.size)) p.block=true:=fun p hp=>by simpa using hlt p hp
 have hres':∀ (b:Nat) (sp:Nat→Bool) (hd:Bool),DataW.TrodAll enc Tryz.prog W' b sp hd f.resultTypes.toList ((Value.bool true).resultList f.resultTypes.size) (s.fn H (ds++gs)).results []:=by
  intro b sp hd
  rw [hres,hfn]
  exact trodAll_mk1 (shut_bool Tryz.underlying4 _)
 have hW2:=hW
 obtain ⟨p,q,hA,hV,hpq,hz,hn⟩:=hW
 rw [hv] at hV
 obtain ⟨_,rfl⟩:=trodVars_none hV
 rw [List.append_nil] at hpq
 subst hpq
 have hargs:∀ sp:Nat→Bool,(∀ p'∈before,sp p'.block=true)→DataW.TrodAll enc Tryz.prog W' 0 sp true f.params.toList args.toList (s.fn H (ds++gs)).args before:=fun sp hs=>by
  rw [hfa];exact fD hB hT hA hlt hs
 have hvars:∀ sp:Nat→Bool,DataW.TrodVars enc Tryz.prog W' sp s.vars (s.fn H (ds++gs)).vars []:=fun sp=>by rw [hv,Xe];exact rfl
 refine ⟨ds,gs,before,[],before,[],hW2,hres' _ _ _,hargs _ hold,hvars _,World.keptBut_mono (fun p hp=>⟨hp,?_⟩) (Below.frame hB (·∈before)),fun _=>?_⟩
 · simpa using hp
 · refine ⟨ok_one hres rfl (okWide_bool_mk Tryz.underlying4 _),_,_,([]++before)++[],⟨[]++before,[],trodAll_append (hargs _ (fun _ _=>rfl)) (hres' _ _ _),hvars _,rfl,?_,?_⟩,?_⟩
   · intro b off hp
     have hin:MemPlace.cell b off∈before:=by simpa using hp
     rw [Below.frozen hB (hlt _ hin)]
     exact hz b off hin
   · intro ha
     have:=hn ha
     simpa using this
   · intro p hp _
     simpa using hp
end Go.Proofs.YtfhcmggpojhegaaGreatDoor
namespace Go.Proofs.YtfhcmggpojhegaaGreatDoor
open Go.ChangeShapes Go.WideShapes Go.ChangeAt Go.RowKit
set_option linter.all false
set_option maxRecDepth 100000
set_option maxHeartbeats 8000000
theorem fC {H:Type} {enc:TypeId × Value→H} {W:World} {fuel:Nat} {v:Value} {y:DataW H × List MemPlace} (hf:DataW.trod enc Tryz.prog W 0 (fun _=>true) true fuel 22 [v]=some y) :
  ∃ xs:List Nat,U W v xs:=by
 rcases open_ints Tryz.underlying22 Tryz.underlying27 rD hf with ⟨hcs,hx⟩ | ⟨a,len,cap',zs,hcs,_,hl,hm,hz,hx,hcell,hwz⟩
 · simp at hcs
   subst hcs
   exact ⟨[],U.Eo _ _ _⟩
 · simp at hcs
   subst hcs
   simp only [if_true] at hz
   have hlen:((zs.take len).map Int.toNat).length=len:=by simp;omega
   have hb:∀ z∈zs,0≤z∧z<4294967296:=fun z hzz=>by have:=bounds_u32 (hwz z hzz);omega
   refine ⟨(zs.take len).map Int.toNat,some a,cap',by rw [hlen],⟨by rw [hlen];exact hl,by rw [hlen];unfold maxLen at hm;omega⟩,?_,fun h0=>⟨a,rfl,?_,fun j hj=>?_⟩⟩
   · intro x hx'
     obtain ⟨z,hz1,rfl⟩:=List.mem_map.1 hx'
     have:=hb z (List.mem_of_mem_take hz1)
     omega
   · rw [hlen] at h0
     have hc:=hcell 0 (by omega)
     rw [gN] at hc
     unfold World.cell? at hc
     rcases Nat.lt_or_ge a.block W.heap.size with h | h
     · exact h
     · rw [Array.getElem?_eq_none h] at hc;cases hc
   · rw [hlen] at hj
     have hjz:j<zs.length:=by omega
     have e:lb ((zs.take len).map Int.toNat) j=(zs.getD j 0).toNat:=by
      simp [lb,hj,hjz]
     rw [hcell j hjz,e]
     have hmem:zs.getD j 0∈zs:=by simp [hjz]
     have:=hb _ hmem
     rw [show (((zs.getD j 0).toNat:Nat):Int)=zs.getD j 0 by omega]
end Go.Proofs.YtfhcmggpojhegaaGreatDoor
namespace Go.Proofs.YtfhcmggpojhegaaGreatDoor
open Go.RowKit
set_option linter.all false
set_option maxRecDepth 100000
set_option maxHeartbeats 8000000
attribute [local go_sem ↓] fU
attribute [local go_sem] bY
theorem gz (w:World) (v:Value) (xs:List Nat) (h:U w v xs) (hlen:xs.length≤1000000000) :
  Calls Tryz.prog 46 #[v] w fun e w'=>(∃ u,e = .returned u∧U w' u (limbs (val xs)))∧Below w.heap.size w w':=by
 have h':=h
 obtain ⟨A,c,rfl,⟨hc,hm⟩,hx,hr⟩:=h
 go_enter Tryz.func46,Tryz.ntmps46
 go_wp2
 go_loop [3] (fun n=>∃ k:Nat,k≤xs.length∧n = .int .i64 k∧Hid (∀ j,k≤j→j<xs.length→lb xs j=0)) (fun n=>(intOf n).toNat)
 case atStart=>exact ⟨xs.length,Nat.le_refl _,rfl,fun j h1 h2=>by omega⟩
 case round =>
  obtain ⟨k,hk,rfl,hz⟩:=hrel
  have hfin:(0<k→lb xs (k-1)≠0)→∃ v' w',(Builtin.append_ #[22,22] 22 #[.slice (some ⟨w.heap.size,0,none⟩) 0 0,.slice A k c]).run Tryz.prog (w.alloc (.cells #[] 27)) = .ok v' w'∧U w' v' (limbs (val xs))∧Below w.heap.size w w':=fun h2=>by
   have hB:Below w.heap.size w (w.alloc (.cells #[] 27)):=(Below.refl _ _).alloc (Nat.le_refl _) _
   have hown:Own (w.alloc (.cells #[] 27)) w.heap.size (.slice (some ⟨w.heap.size,0,none⟩) 0 0) []:=World.ownsRow_lit w #[] 0 (Nat.le_refl _) (Nat.zero_le _) rfl
   have hu:U w (.slice A k c) (xs.take k):=h'.take hk (by omega)
   have htl:(xs.take k).length=k:=by simp;omega
   obtain ⟨v',w',hrun,ho,hg⟩:=jP _ w.heap.size _ [] hown _ _ (hu.below hB) (by rw [htl];simp;omega) hB.size
   refine ⟨v',w',hrun,?_,hB.grown hg hB.size (fun j e=>by cases e;exact Nat.le_refl _)⟩
   rw [sV xs k hx hk hz.out h2]
   rw [List.nil_append] at ho
   exact ho.KG (fun x hx'=>hx x (List.mem_of_mem_take hx')) (by rw [htl];omega)
  rcases Nat.eq_zero_or_pos k with rfl | h0
  · obtain ⟨v',w',hrun,HU,HB⟩:=hfin (fun h=>absurd h (by omega))
    obtain ⟨t1,t2,t3⟩:=j5 hrun
    clear hfin hrun
    go_wp2
    go_ret
    exact ⟨⟨_,rfl,HU⟩,HB⟩
  · obtain ⟨ad,rfl,hb,hcell⟩:=hr (by omega)
    have hc1:=hcell (k-1) (by omega)
    by_cases hx0:lb xs (k-1)=0
    · have ht:((((lb xs (k-1):Nat)):Int)==0)=true:=by rw [hx0];rfl
      have HX:=Lib.hid hx0
      clear hx0 hfin
      go_wp2
      go_round
      case rel=>exact ⟨k-1,by omega,by go_num,fun j h1 h2=>by
       rcases Nat.lt_or_ge j k with h3 | h3
       · have:j=k-1:=by omega
         subst this;exact HX.out
       · exact hz.out j h3 h2⟩
      case measure=>simp [intOf];omega
    · have ht:((((lb xs (k-1):Nat)):Int)==0)=false:=by rw [beq_eq_false_iff_ne];omega
      obtain ⟨v',w',hrun,HU,HB⟩:=hfin (fun _=>hx0)
      obtain ⟨t1,t2,t3⟩:=j5 hrun
      clear hfin hrun hx0
      go_wp2
      go_ret
      exact ⟨⟨_,rfl,HU⟩,HB⟩
end Go.Proofs.YtfhcmggpojhegaaGreatDoor
namespace Go.Proofs.YtfhcmggpojhegaaGreatDoor
open Go.RowKit
set_option linter.all false
set_option maxRecDepth 100000
set_option maxHeartbeats 8000000
theorem mD (w:World) (v:Value) (xs:List Nat) (k:Int) (hk0:0≤k) (hk1:k≤1000000000) (h:U w v xs) :
  Calls Tryz.prog 9 #[v,.int .i64 k] w fun e w'=>(∃ u,e = .returned u∧Un w' u (lF xs k.toNat))∧Below w.heap.size w w':=by
 have h':=h
 obtain ⟨A,c,rfl,⟨hc,hm⟩,hx,hr⟩:=h
 clear hr
 by_cases hl:(xs.length:Int)≤k
 · have hu:=gz w _ xs h' (by omega)
   have HT:Hid (xs.take k.toNat=xs):=List.take_of_length_le (by omega)
   have hmin:min (xs.length:Int) k=xs.length:=by omega
   go_enter Tryz.func9,Tryz.ntmps9
   go_wp2_with (go_at_call 46;refine hu.mono ?_;rintro e w' ⟨⟨z,rfl,hz⟩,hB⟩)
   go_ret
   exact ⟨⟨_,rfl,by rw [Un,lF,HT.out];exact hz⟩,hB⟩
 · obtain ⟨k,rfl⟩:=Int.eq_ofNat_of_zero_le hk0
   have hu:=gz w _ _ (h'.take (k:=k) (c':=c) (by omega) (by omega)) (by rw [List.length_take];omega)
   have hmin:min (xs.length:Int) (k:Int)=k:=by omega
   go_enter Tryz.func9,Tryz.ntmps9
   go_wp2_with (go_at_call 46;refine hu.mono ?_;rintro e w' ⟨⟨z,rfl,hz⟩,hB⟩)
   go_ret
   exact ⟨⟨_,rfl,by rw [Un,lF,Int.toNat_natCast];exact hz⟩,hB⟩
end Go.Proofs.YtfhcmggpojhegaaGreatDoor
namespace Go.Proofs.YtfhcmggpojhegaaGreatDoor
open Go.RowKit
set_option linter.all false
set_option maxRecDepth 100000
set_option maxHeartbeats 8000000
theorem nA (w:World) (v:Value) (xs:List Nat) (k:Int) (h:U w v xs) (hk0:0≤k) (hk1:k≤1000000000) (n:Nat) (hn:lF xs k.toNat=n) :
  Calls Tryz.prog 9 #[v,.int .i64 k] w fun e w'=>∃ u,e = .returned u∧Un w' u n∧Ext w w':=by
 subst hn
 exact (mD w v xs k hk0 hk1 h).mono fun e w' ⟨⟨u,he,hu⟩,hb⟩=>⟨u,he,hu,hb⟩
end Go.Proofs.YtfhcmggpojhegaaGreatDoor
namespace Go.Proofs.YtfhcmggpojhegaaGreatDoor
open Go.RowKit
set_option linter.all false
set_option maxRecDepth 100000
set_option maxHeartbeats 8000000
theorem G9 (w:World) (v u:Value) (n m d:Nat) (h:Un w v n) (g:Un w u m) (hl:(limbs n).length≤1000000) (hle:m≤n) (hd:n-m=d) :
  Calls Tryz.prog 70 #[v,u] w fun e w'=>∃ z,e = .returned z∧Un w' z d∧Ext w w':=by
 have h0:=Lib.hid (vF w v u n m h g (by omega) true (by rw [decide_eq_true_iff];exact hle) d hd)
 clear h g hle hd
 go_enter Tryz.func70,Tryz.ntmps70
 go_wp2_with (fail)
 refine h0.out.mono ?_
 rintro e w1 ⟨z,rfl,hz,hB⟩
 have HF:Hid (∃ z',Ending.returned z = .returned z'∧Un w1 z' d∧Ext w w1):=⟨_,rfl,hz,hB⟩
 clear hz hB h0
 go_wp2
 go_ret
 exact HF.out
end Go.Proofs.YtfhcmggpojhegaaGreatDoor
namespace Go.Proofs.YtfhcmggpojhegaaGreatDoor
set_option linter.all false
set_option maxRecDepth 100000
set_option maxHeartbeats 8000000
theorem CY {n m:Nat} (h:n≤m):aU n≤aU m:=aT (Nat.lt_of_le_of_lt h (dW m))
end Go.Proofs.YtfhcmggpojhegaaGreatDoor
namespace Go.Proofs.YtfhcmggpojhegaaGreatDoor
open Go.RowKit
set_option linter.all false
set_option maxRecDepth 100000
set_option maxHeartbeats 8000000
theorem AX (w:World) (N:Nat) (hN:w.heap.size=N) (x:Nat) (h0:x≠0) (h:x<4294967296):Un (w.alloc (.cells #[.int .u32 (x:Nat)] 27)) (.slice (some ⟨N,0,none⟩) 1 1) x:=by
 subst hN
 have:=Fh w [x] (by simpa using h) (by simp)
 rw [Un,qY x h0 h]
 exact this
theorem Zf {x:Nat} (h:x<4294967296):(limbs x).length≤398:=Nat.le_trans (jO (k:=1) (by unfold LB;omega)) (by decide)
end Go.Proofs.YtfhcmggpojhegaaGreatDoor
namespace Go.Proofs.YtfhcmggpojhegaaGreatDoor
open Go.RowKit
set_option linter.all false
set_option maxRecDepth 100000
set_option maxHeartbeats 8000000
theorem LQ (b O b2 R Y c:Nat) (hO:0<O) (hb:b/O+1=b2) (hOb:O≤b) (hRO:R*O≤b) (h:R*b2≤Y) (hc:Y≤R*b2+c*b2):R*b≤Y*O∧Y*O≤R*b+(2*c+1)*b:=by
 refine ⟨Q8 b O b2 R Y hO hb h,?_⟩
 have h1:b2*O≤b+O:=by
  rw [← hb,Nat.add_mul,Nat.one_mul]
  have:=Nat.div_mul_le_self b O
  omega
 have h2:Y*O≤(R+c)*(b2*O):=by
  have:=Nat.mul_le_mul_right O hc
  rw [← Nat.add_mul,Nat.mul_assoc] at this
  exact this
 have h3:(R+c)*(b2*O)≤(R+c)*(b+O):=Nat.mul_le_mul_left _ h1
 have h4:(R+c)*(b+O)=R*b+R*O+(c*b+c*O):=by rw [Nat.add_mul,Nat.mul_add,Nat.mul_add]
 have h5:c*O≤c*b:=Nat.mul_le_mul_left _ hOb
 have h6:(2*c+1)*b=c*b+c*b+b:=by rw [Nat.add_mul,Nat.one_mul,Nat.mul_assoc,Nat.two_mul]
 omega
structure zi (e b size k b' size':Nat):Prop where
 lo:2^(size'-1)≤b'
 hi:b'≤2^(size'+e+1)
 one:1≤size'
 le:size'≤size
 lek:size'≤k+4
 back:∀ R c,R*b'≤2^(size'+k)→2^(size'+k)≤R*b'+c*b'→R*b≤2^(size+k)∧2^(size+k)≤R*b+(2*c+1)*b
theorem CZ (e b size k:Nat) (h1:2^(size-1)≤b) (h2:b≤2^(size+e)) (h3:1≤size) (h4:size≤k+4):zi e b size k b size:=by
 refine ⟨h1,Nat.le_trans h2 (Nat.pow_le_pow_right (by decide) (by omega)),h3,Nat.le_refl _,h4,fun R c a1 a2=>⟨a1,Nat.le_trans a2 ?_⟩⟩
 have:=Nat.mul_le_mul_right b (show c≤2*c+1 by omega)
 omega
theorem He (e b size k ov b2:Nat) (h1:2^(size-1)≤b) (h2:b≤2^(size+e)) (h3:size=k+4+ov) (hb:b/2^ov+1=b2):zi e b size k b2 (k+4):=by
 have hO:0<2^ov:=Nat.two_pow_pos _
 have e1:2^(size-1)=2^(k+3)*2^ov:=by rw [← Nat.pow_add];congr 1;omega
 have e2:2^(k+3)≤b/2^ov:=(Nat.le_div_iff_mul_le hO).2 (by rw [← e1];exact h1)
 have e3:b/2^ov≤2^(k+4+e):=by
  refine Nat.div_le_of_le_mul ?_
  rw [← Nat.pow_add,show ov+(k+4+e)=size+e by omega];exact h2
 refine ⟨by show 2^(k+3)≤b2;omega,?_,by omega,by omega,Nat.le_refl _,fun R c a1 a2=>?_⟩
 · have:2^(k+4+e+1)=2^(k+4+e)*2:=Nat.pow_succ ..
   have:=Nat.two_pow_pos (k+4+e)
   omega
 · have f1:2^(k+3)≤b2:=by omega
   have f2:R*2^(k+3)≤2^(k+1)*2^(k+3):=by
    rw [← Nat.pow_add,show k+1+(k+3)=k+4+k by omega]
    exact Nat.le_trans (Nat.mul_le_mul_left R f1) a1
   have f3:R≤2^(k+1):=Nat.le_of_mul_le_mul_right f2 (Nat.two_pow_pos _)
   have f4:R*2^ov≤b:=by
    refine Nat.le_trans (Nat.mul_le_mul_right _ f3) (Nat.le_trans ?_ h1)
    rw [← Nat.pow_add];exact Nat.pow_le_pow_right (by decide) (by omega)
   have f5:2^ov≤b:=Nat.le_trans (Nat.pow_le_pow_right (by decide) (by omega)) h1
   have f6:=LQ b (2^ov) b2 R (2^(k+4+k)) c hO hb f5 f4 a1 a2
   rw [← Nat.pow_add,show k+4+k+ov=size+k by omega] at f6
   exact f6
theorem Hf (e size k b R:Nat) (h1:2^(size-1)≤b) (h3:1≤size) (h:R*b≤2^(size+k)):R≤2^(k+1):=by
 have f2:R*2^(size-1)≤2^(k+1)*2^(size-1):=by
  rw [← Nat.pow_add,show k+1+(size-1)=size+k by omega]
  exact Nat.le_trans (Nat.mul_le_mul_left R h1) h
 exact Nat.le_of_mul_le_mul_right f2 (Nat.two_pow_pos _)
theorem Z4 (a b S1 K1 R q c:Nat) (hS:0<S1) (hK:0<K1) (hSb:S1≤b) (ha:a/S1<K1) (hR:S1*K1≤R*b+c*b) (hq:a/S1*R/K1=q):a<q*b+(c+2)*b:=by
 have h1:a/S1*R<(q+1)*K1:=by
  rw [← hq,Nat.mul_comm _ K1];exact Nat.lt_mul_div_succ _ hK
 have h2:a/S1*(S1*K1)≤a/S1*(R*b+c*b):=Nat.mul_le_mul_left _ hR
 have h3:a/S1*(R*b+c*b)=a/S1*R*b+a/S1*(c*b):=by rw [Nat.mul_add,Nat.mul_assoc]
 have h4:a/S1*R*b≤(q+1)*K1*b:=Nat.mul_le_mul_right b (Nat.le_of_lt h1)
 have h5:a/S1*(c*b)≤K1*(c*b):=Nat.mul_le_mul_right _ (Nat.le_of_lt ha)
 have h6:a/S1*S1*K1≤((q+1)*b+c*b)*K1:=by
  rw [Nat.add_mul,Nat.mul_right_comm (q+1) b K1,Nat.mul_comm (c*b) K1,Nat.mul_assoc (a/S1) S1 K1]
  omega
 have h7:=Nat.le_of_mul_le_mul_right h6 hK
 have h8:a<a/S1*S1+S1:=by
  have:=Nat.lt_mul_div_succ a hS
  rw [Nat.mul_add,Nat.mul_one,Nat.mul_comm] at this
  exact this
 rw [Nat.add_mul,Nat.one_mul] at h7
 rw [Nat.add_mul c 2]
 omega
end Go.Proofs.YtfhcmggpojhegaaGreatDoor
namespace Go.Proofs.YtfhcmggpojhegaaGreatDoor
open Go.RowKit
set_option linter.all false
set_option maxRecDepth 100000
set_option maxHeartbeats 8000000
theorem LU {n c:Nat} (h:n<2^(32*c)):(limbs n).length≤c:=fT (by rw [Cc];exact h)
theorem iO {n m:Nat} (c:Nat) (h:n≤2^m) (hm:m<32*c):(limbs n).length≤c:=LU (Nat.lt_of_le_of_lt h (Nat.pow_lt_pow_right (by decide) hm))
theorem C8 (a b q0 R more q r:Nat) (h:R+(q0+more)*b=a) (hlt:a<q0*b+1152921504606846976*b) (hb:0<b) (hq:a/b=q) (hr:a%b=r):more<1152921504606846976∧(R<b→q0+more=q∧R=r):=by
 refine ⟨?_,fun hR=>?_⟩
 · rw [Nat.add_mul] at h
   have:more*b<1152921504606846976*b:=by omega
   exact Nat.lt_of_mul_lt_mul_right this
 · obtain ⟨h1,h2⟩:=zG b a (q0+more) R (by omega) hR
   exact ⟨by rw [← h1,hq],by rw [← h2,hr]⟩
theorem Q9 (w:World) (va vb vq:Value) (a b q0 q r:Nat) (ha:Un w va a) (hb:Un w vb b) (hq0:Un w vq q0) (hla:(limbs a).length≤398) (hlb:(limbs b).length≤398) (hlq:(limbs q0).length≤398) (h0:b≠0)
  (hle:q0*b≤a) (hlt:a<q0*b+1152921504606846976*b) (hq:a/b=q) (hr:a%b=r) :
  Calls Tryz.prog 66 #[va,vb,vq] w fun e w'=>(∃ x y,e = .returned (.tuple #[x,y])∧Un w' x q∧Un w' y r)∧Ext w w':=by
 have gK:=Ext.refl w
 obtain ⟨p,hp⟩:∃ p,q0*b=p:=⟨_,rfl⟩
 obtain ⟨R0,hR0⟩:∃ R0,a-p=R0:=⟨_,rfl⟩
 have HMul:=Lib.hid (mulN w vq vb q0 b p hq0 hb hlq hlb hp)
 have Z5:=Lib.hid (fun W u (h:Un W va a) (g:Un W u p)=>G9 W va u a p R0 h g (by omega) (by omega) hR0)
 have HM:=Lib.hid (fun R more h=>C8 a b q0 R more q r h hlt (by omega) hq hr)
 have WX:Hid (R0+(q0+0)*b=a):=by show R0+(q0+0)*b=a;rw [Nat.add_zero,hp];omega
 have Zh:Hid (∀ R,R≤a→(limbs R).length≤398):=fun R h=>Nat.le_trans (eZ h) hla
 have HLQ:Hid ((limbs q0).length≤398):=hlq
 have HB0:=Lib.hid (show 0<b by omega)
 clear hla hlb hlq h0 hle hlt hq hr hp hR0
 go_enter Tryz.func66,Tryz.ntmps66
 go_wp2_with (fail)
 refine HMul.out.mono ?_
 rintro e w1 ⟨vp,rfl,hvp,hB⟩
 replace ha:=U.below (U.dK ha) hB
 replace hb:=U.below (U.dK hb) hB
 replace hq0:=U.below (U.dK hq0) hB
 replace gK:=gK.below hB
 clear hB HMul
 go_wp2_with (fail)
 refine (Z5.out _ _ ha hvp).mono ?_
 rintro e w2 ⟨vr,rfl,rX,hB⟩
 replace hb:=U.below (U.dK hb) hB
 replace hq0:=U.below (U.dK hq0) hB
 replace gK:=gK.below hB
 clear hB Z5 ha hvp
 go_wp2
 go_loopw [8,9] (fun s8 s9 wr=>∃ (R more:Nat),Un wr s8 R∧s9 = .int .u64 (more:Nat)∧Hid (R+(q0+more)*b=a)∧Un wr vb b∧Un wr vq q0∧Ext w wr) (fun _ s9 _=>1152921504606846976-(intOf s9).toNat)
 case atStart=>exact ⟨R0,0,rX,rfl,WX,hb,hq0,gK⟩
 case round =>
  clear rX WX hb hq0 gK
  obtain ⟨R,more,hR,rfl,HO,hb,hq0,hE⟩:=hrel
  obtain ⟨hm,hdn⟩:=HM.out R more HO.out
  have hRa:R≤a:=by have:=HO.out;omega
  have hlR:=Zh.out R hRa
  obtain ⟨k,hk⟩:∃ k,dY (R:Int) (b:Int)=k:=⟨_,rfl⟩
  have mY:=Lib.hid (pU wr _ vb R b hR hb k hk)
  rcases Nat.lt_or_ge R b with hlt | hge
  · obtain ⟨hqe,rfl⟩:=hdn hlt
    obtain rfl:k = -1:=by rw [← hk];exact kU (by omega)
    have HOf:=Lib.hid (fun W=>of_B W (more:Int) (Int.natCast_nonneg _) (by omega) more (Int.toNat_natCast _))
    have Z6:=Lib.hid (fun W u (h:Un W vq q0) (g:Un W u more)=>jA W vq u q0 more h g (by have:=HLQ.out;omega) (by have:=fT (n:=more) (k:=2) (by omega);omega) q hqe)
    clear hm hdn hRa hlR hk hlt hqe HO hb
    go_wp2_with (fail)
    refine mY.out.mono ?_
    rintro e w3 ⟨rfl,hB⟩
    replace hR:=U.below (U.dK hR) hB
    replace hq0:=U.below (U.dK hq0) hB
    replace hE:=hE.below hB
    clear hB mY
    go_wp2_with (fail)
    refine (HOf.out _).mono ?_
    rintro e w4 ⟨vo,rfl,hvo,hB⟩
    replace hR:=U.below (U.dK hR) hB
    replace hq0:=U.below (U.dK hq0) hB
    replace hE:=hE.below hB
    clear hB HOf
    go_wp2_with (fail)
    refine (Z6.out _ _ hq0 hvo).mono ?_
    rintro e w5 ⟨vs,rfl,hvs,hB⟩
    replace hR:=U.below (U.dK hR) hB
    replace hE:=hE.below hB
    have HF:Hid (∃ x y,Ending.returned (.tuple #[vs,u8]) = .returned (.tuple #[x,y])∧Un w5 x q∧Un w5 y R):=⟨_,_,rfl,hvs,hR⟩
    clear hB Z6 hq0 hvo hvs hR
    go_wp2
    go_ret2
    exact ⟨HF.out,hE⟩
  · have hk1:0≤k:=by
     rw [← hk]
     rcases Nat.lt_or_ge b R with h | h
     · rw [lW (by omega)];decide
     · rw [show R=b by omega,oW];decide
    have hk2:decide (0≤k)=true:=by rw [decide_eq_true_iff];exact hk1
    obtain ⟨R2,hR2⟩:∃ R2,R-b=R2:=⟨_,rfl⟩
    have Z5:=Lib.hid (fun W (h:Un W u8 R) (g:Un W vb b)=>G9 W u8 vb R b R2 h g (by omega) hge hR2)
    have HST:Hid (R2+(q0+(more+1))*b=a):=by
     show R2+(q0+(more+1))*b=a
     rw [← Nat.add_assoc,Nat.add_mul (q0+more),Nat.one_mul,← HO.out];omega
    have f1:(more:Int)+1=((more+1:Nat):Int):=by omega
    have f2:=iP (show more+1<18446744073709551616 by omega)
    have f3:=iY (show more+1<18446744073709551616 by omega)
    have HMO:=Lib.hid hm
    obtain ⟨m2,hm2⟩:∃ m2,more+1=m2:=⟨_,rfl⟩
    have HM2:=Lib.hid hm2
    rw [hm2] at f1 f2 f3 HST
    clear hm hdn hRa hlR hk hge hR2 HO hm2
    go_wp2_with (fail)
    refine mY.out.mono ?_
    rintro e w3 ⟨rfl,hB⟩
    replace hR:=U.below (U.dK hR) hB
    replace hb:=U.below (U.dK hb) hB
    replace hq0:=U.below (U.dK hq0) hB
    replace hE:=hE.below hB
    clear hB mY
    go_wp2_with (fail)
    refine (Z5.out _ hR hb).mono ?_
    rintro e w4 ⟨vr2,rfl,aiE,hB⟩
    replace hb:=U.below (U.dK hb) hB
    replace hq0:=U.below (U.dK hq0) hB
    replace hE:=hE.below hB
    clear hB Z5 hR
    go_wp2
    go_roundw
    case rel=>exact ⟨R2,m2,aiE,by first | rfl | go_num,HST,hb,hq0,hE⟩
    case measure=>have:=HMO.out;have:=HM2.out;simp [intOf];omega
end Go.Proofs.YtfhcmggpojhegaaGreatDoor
namespace Go.Proofs.YtfhcmggpojhegaaGreatDoor
open Go.RowKit
set_option linter.all false
set_option maxRecDepth 100000
set_option maxHeartbeats 8000000
theorem rE (w:World):Un (w.alloc (.cells #[.int .u32 1] 27)) (.slice (some ⟨w.heap.size,0,none⟩) 1 1) 1:=AX w _ rfl 1 (by decide) (by decide)
theorem wD (k:Nat):1*2^k=2^k:=Nat.one_mul _
theorem D7:(limbs 1).length≤1000000000:=Nat.le_trans (Zf (by decide)) (by decide)
def Rc (c:Nat) (w w':World) (e:Ending) (b size k:Nat):Prop:=∃ u R,e = .returned u∧Un w' u R∧(R*b≤2^(size+k)∧2^(size+k)≤R*b+c*b)∧Ext w w'
theorem LV (w:World) (vb:Value) (b size k:Nat) (hb:Un w vb b) (h1:2^(size-1)≤b) (h2:b≤2^(size+1)) (h3:1≤size) (h4:size≤4100) (hk:k<2000) :
  Calls Tryz.prog 65 #[vb,.int .i64 (size:Nat),.int .i64 (k:Nat)] w fun e w'=>Rc 3 w w' e b size k:=by
 unfold Rc
 have gK:=Ext.refl w
 have hlb:(limbs b).length≤129:=iO 129 h2 (by omega)
 have Om:Hid (∀ b' size',zi 1 b size k b' size'→b'≠0∧(limbs b').length≤126∧(limbs (2^(size'+k))).length≤900∧(2^(size'+k)/b')*b≤2^(size+k)∧2^(size+k)≤(2^(size'+k)/b')*b+3*b):=fun b' size' h=>by
  have a1:=h.lek
  have a2:=h.one
  have hb0:0<b':=Nat.lt_of_lt_of_le (Nat.two_pow_pos _) h.lo
  refine ⟨by omega,iO 126 h.hi (by omega),iO 900 (Nat.le_refl _) (by omega),?_⟩
  have:=h.back (2^(size'+k)/b') 1 (Nat.div_mul_le_self _ _) (by
   have:=Nat.lt_mul_div_succ (2^(size'+k)) hb0
   rw [Nat.mul_add,Nat.mul_one,Nat.mul_comm] at this
   omega)
  simpa using this
 have HCT:Hid (k+4<size→zi 1 b size k (b/2^(size-(k+4))+1) (k+4)):=fun h=>He 1 b size k (size-(k+4)) _ h1 h2 (by omega) rfl
 have HSM:Hid (size≤k+4→zi 1 b size k b size):=fun h=>CZ 1 b size k h1 h2 h3 h
 have HLB:=Lib.hid hlb
 obtain ⟨ov,hov⟩:∃ ov:Int,(size:Int)-((k:Int)+4)=ov:=⟨_,rfl⟩
 have HOV:=Lib.hid hov
 have HH:=Lib.hid h4
 clear h1 h2 h3 hlb
 go_enter Tryz.func65,Tryz.ntmps65
 go_upto_if 21 with (fail)
 go_cut [0,1] from 7 (fun s0 s1 wx=>∃ (b' size':Nat),Un wx s0 b'∧s1 = .int .i64 (size':Nat)∧Hid (zi 1 b size k b' size')∧Ext w wx)
 case first =>
  by_cases h:k+4<size
  · obtain ⟨n,hn⟩:∃ n,size-(k+4)=n:=⟨_,rfl⟩
    have hC:=HCT.out h
    rw [hn] at hC
    have MQ:ov=(n:Int):=by omega
    have hp:decide ((0:Int)<ov)=true:=by rw [decide_eq_true_iff];omega
    have hp2:0<ov:=by omega
    obtain ⟨b1,hb1⟩:∃ b1,b/2^n=b1:=⟨_,rfl⟩
    obtain ⟨b2,hb2⟩:∃ b2,b1+1=b2:=⟨_,rfl⟩
    rw [hb1,hb2] at hC
    have HC:=Lib.hid hC
    have hl1:(limbs b1).length≤129:=Nat.le_trans (eZ (by rw [← hb1];exact Nat.div_le_self _ _)) HLB.out
    have Z7:=Lib.hid (fun W (h:Un W vb b)=>DK W vb b ov h (by omega) (by omega) (by have:=HLB.out;omega) b1 (by rw [MQ,Int.toNat_natCast];exact hb1))
    have Z6:=Lib.hid (fun W v u (h:Un W v b1) (g:Un W u 1)=>jA W v u b1 1 h g (by omega) D7 b2 hb2)
    clear h hn MQ hb1 hb2 hl1 hC hov
    go_wp2_with (fail)
    refine (Z7.out _ hb).mono ?_
    rintro e w1 ⟨v1,rfl,hv1,hB⟩
    replace gK:=gK.below hB
    have hl:=Lib.hid (rE w1)
    clear hB Z7 hb
    go_wp2_with (fail)
    refine (Z6.out _ _ _ (U.alloc (U.dK hv1) _) hl.out).mono ?_
    rintro e w2 ⟨v2,rfl,hv2,hB⟩
    replace gK:=(gK.alloc _).below hB
    clear hB Z6 hv1 hl
    go_wp2_with (fail)
    go_meet
    case rel=>exact ⟨b2,k+4,hv2,by first | rfl | go_num,HC,gK⟩
  · have hp:decide ((0:Int)<ov)=false:=by rw [decide_eq_false_iff_not];omega
    have hp2:¬ 0<ov:=by omega
    have HC:Hid (zi 1 b size k b size):=HSM.out (by omega)
    clear h hov
    go_wp2_with (fail)
    go_meet
    case rel=>exact ⟨b,size,hb,rfl,HC,gK⟩
 case rest =>
  obtain ⟨b',size',hb',rfl,HC,hE⟩:=hcut
  obtain ⟨a1,a2,a3,a4⟩:=Om.out b' size' HC.out
  have a5:=HC.out.lek
  obtain ⟨Y,hY⟩:∃ Y,2^(size'+k)=Y:=⟨_,rfl⟩
  obtain ⟨R,hR⟩:∃ R,Y/b'=R:=⟨_,rfl⟩
  rw [hY] at a3 a4
  rw [hR] at a4
  have HA:=Lib.hid a4
  have HSl:=Lib.hid (fun W v (h:Un W v 1)=>MP W v 1 ((size':Int)+(k:Int)) h (by omega) (by omega) D7 Y (by rw [show ((size':Int)+(k:Int)).toNat=size'+k by omega,wD];exact hY))
  have HSc:=Lib.hid (fun W v u (h:Un W v Y) (g:Un W u b')=>zO W v u Y b' R (Y%b') h g (by omega) (by omega) a1 hR rfl)
  have hl:=Lib.hid (rE wc)
  have a6:size'≤2003:=by omega
  clear a1 a2 a3 a4 a5 hY hR HC Om HCT HSM hov gK hb
  go_wp2_with (fail)
  refine (HSl.out _ _ hl.out).mono ?_
  rintro e w1 ⟨v1,rfl,hv1,hB⟩
  replace hb':=U.below (U.alloc (U.dK hb') _) hB
  replace hE:=(hE.alloc _).below hB
  clear hB HSl hl
  go_wp2_with (fail)
  refine (HSc.out _ _ _ hv1 hb').mono ?_
  rintro e w2 ⟨⟨x,y,rfl,hx,hy⟩,hB⟩
  replace hE:=hE.below hB
  have HF:Hid (∃ u R,Ending.returned x = .returned u∧Un w2 u R∧(R*b≤2^(size+k)∧2^(size+k)≤R*b+3*b)∧Ext w w2):=⟨_,R,rfl,hx,HA.out,hE⟩
  clear hB HSc hv1 hb' hx hy hE HA
  go_wp2
  go_ret
  exact HF.out
end Go.Proofs.YtfhcmggpojhegaaGreatDoor
namespace Go.Proofs.YtfhcmggpojhegaaGreatDoor
open Go.RowKit
set_option linter.all false
set_option maxRecDepth 100000
set_option maxHeartbeats 8000000
theorem wE (a b size ba k:Nat) (h0:b≠0) (hge:b≤a) (hla:(limbs a).length≤60) (hs:aU b=size) (hba:aU a=ba) (hk:ba-size+1=k) :
  size≤ba∧2^(size-1)≤b∧b≤2^(size+1)∧1≤size∧ba≤1920 ∧
  ∀ R,R*b≤2^(size+k)→2^(size+k)≤R*b+3*b→(limbs R).length≤61∧(limbs (a/2^(size-1))).length≤60∧(limbs (a/2^(size-1)*R)).length≤200∧(limbs (a/2^(size-1)*R/2^(k+1))).length≤60 ∧
   a/2^(size-1)*R/2^(k+1)*b≤a∧a<a/2^(size-1)*R/2^(k+1)*b+1152921504606846976*b:=by
 have e1:size≤ba:=by rw [← hs,← hba];exact CY hge
 have e2:2^(size-1)≤b:=by rw [← hs];exact kD h0
 have e3:b≤2^(size+1):=Nat.le_trans (Nat.le_of_lt (dW b)) (by rw [hs];exact Nat.pow_le_pow_right (by decide) (by omega))
 have e4:1≤size:=by rw [← hs];exact AQ h0
 have e5:ba≤1920:=by rw [← hba];exact Hg hla
 refine ⟨e1,e2,e3,e4,e5,fun R a1 a2=>?_⟩
 have hS:=Nat.two_pow_pos (size-1)
 have hK:=Nat.two_pow_pos (k+1)
 have eSK:2^(size-1)*2^(k+1)=2^(size+k):=by rw [← Nat.pow_add];congr 1;omega
 have hR:=Hf 0 size k b R e2 e4 a1
 have ha1:a/2^(size-1)<2^k:=by
  refine Nat.div_lt_of_lt_mul ?_
  rw [← Nat.pow_add,show size-1+k=ba by omega,← hba]
  exact dW a
 have hle:=Z0 a b (2^(size-1)) (2^(k+1)) R _ hS hK (by rw [eSK];exact a1) rfl
 have atI:=Z4 a b (2^(size-1)) (2^(k+1)) R _ 3 hS hK e2 (Nat.lt_of_lt_of_le ha1 (Nat.pow_le_pow_right (by decide) (by omega))) (by rw [eSK];exact a2) rfl
 have hM:=mul_two (Nat.le_of_lt ha1) hR
 refine ⟨iO 61 hR (by omega),Nat.le_trans (eZ (Nat.div_le_self _ _)) hla,iO 200 hM (by omega),Nat.le_trans (eZ (Nat.le_trans (Nat.le_mul_of_pos_right _ (by omega)) hle)) hla,hle,?_⟩
 omega
theorem Bg (w:World) (va vb:Value) (a b q r:Nat) (ha:Un w va a) (hb:Un w vb b) (hla:(limbs a).length≤60) (hlb:(limbs b).length≤60) (h0:b≠0) (hq:a/b=q) (hr:a%b=r) :
  Calls Tryz.prog 16 #[va,vb] w fun e w'=>Dv w w' e q r:=by
 unfold Dv
 have hnz:=Ff h0
 obtain ⟨Ab,cb,rfl,hcb⟩:=U.shape (U.dK hb)
 obtain ⟨L,hL⟩:∃ L,(limbs b).length=L:=⟨_,rfl⟩
 obtain ⟨k,hk⟩:∃ k,dY (a:Int) (b:Int)=k:=⟨_,rfl⟩
 have mY:=Lib.hid (pU w va _ a b ha hb k hk)
 rw [hL] at hnz hlb hb mY ⊢
 have hL0:((L:Int)==0)=false:=by rw [beq_eq_false_iff_ne];omega
 have agL:¬ L=0:=by omega
 have gK:=Ext.refl w
 rcases Nat.lt_or_ge a b with hlt | hge
 · have hq0:q=0:=by rw [← hq];exact Nat.div_eq_of_lt hlt
   have hr0:r=a:=by rw [← hr];exact Nat.mod_eq_of_lt hlt
   have hk1:k = -1:=by rw [← hk];exact kU (by omega)
   subst hq0 hr0 hk1
   clear hq hr hk hlt hb hL hcb hla hlb
   go_enter Tryz.func16,Tryz.ntmps16
   go_wp2_with (fail)
   refine mY.out.mono ?_
   rintro e w1 ⟨rfl,hB⟩
   replace ha:=U.below (U.dK ha) hB
   replace gK:=gK.below hB
   have HF:Hid (∃ x y,Ending.returned (.tuple #[.slice none 0 0,va,.int .i64 0]) = .returned (.tuple #[x,y,.int .i64 0])∧Un w1 x 0∧Un w1 y r):=⟨_,_,rfl,Fg _,ha⟩
   clear hB mY ha
   go_wp2
   go_ret3
   exact ⟨HF.out,gK⟩
 · have hk1:¬ k<0:=by
    rw [← hk]
    rcases Nat.lt_or_ge b a with h | h
    · rw [lW (by omega)];decide
    · rw [show a=b by omega,oW];decide
   have hk2:decide (k<0)=false:=by rw [decide_eq_false_iff_not];exact hk1
   obtain ⟨size,hs⟩:∃ size,aU b=size:=⟨_,rfl⟩
   obtain ⟨ba,hba⟩:∃ ba,aU a=ba:=⟨_,rfl⟩
   obtain ⟨kk,hkk⟩:∃ kk,ba-size+1=kk:=⟨_,rfl⟩
   obtain ⟨m1,m2,m3,m4,m5,m6⟩:=wE a b size ba kk h0 hge hla hs hba hkk
   obtain ⟨s1,hs1⟩:∃ s1,size-1=s1:=⟨_,rfl⟩
   obtain ⟨k1,Z8⟩:∃ k1,kk+1=k1:=⟨_,rfl⟩
   have HBb:=Lib.hid (fun W (h:Un W (.slice Ab L cb) b)=>vw W _ b h (by omega) (size:Int) (by rw [hs]))
   have HBa:=Lib.hid (fun W (h:Un W va a)=>vw W va a h (by omega) (ba:Int) (by rw [hba]))
   obtain ⟨a1,ha1⟩:∃ a1,a/2^s1=a1:=⟨_,rfl⟩
   have Z7:=Lib.hid (fun W (h:Un W va a)=>DK W va a (s1:Int) h (Int.natCast_nonneg _) (by omega) (by omega) a1 (by rw [Int.toNat_natCast];exact ha1))
   have HBl:Hid (∀ W v,Un W v b→Calls Tryz.prog 65 #[v,.int .i64 (size:Nat),.int .i64 (kk:Nat)] W fun e w'=>∃ u R,e = .returned u∧Un w' u R∧(R*b≤2^(size+kk)∧2^(size+kk)≤R*b+3*b)∧Ext W w'):=fun W v g=>LV W v b size kk g m2 m3 m4 (by omega) (by omega)
   rw [hs1,Z8,ha1] at m6
   have HM6:=Lib.hid m6
   have HLL:=Lib.hid (And.intro hla (And.intro (show (limbs b).length≤60 by omega) (And.intro h0 (And.intro hq (And.intro hr (show k1≤2000 by omega))))))
   have f1:(ba:Int)-(size:Int)+1=(kk:Int):=by omega
   have f2:(size:Int)-1=(s1:Int):=by omega
   have f3:(kk:Int)+1=(k1:Int):=by omega
   have f4:size≤1920:=by omega
   have f5:kk≤1921:=by omega
   clear hq hr hk hge hL hcb hla hlb h0 hs hba hkk m1 m2 m3 m4 m6 hs1 Z8 ha1
   go_enter Tryz.func16,Tryz.ntmps16
   go_wp2_with (fail)
   refine mY.out.mono ?_
   rintro e w1 ⟨rfl,hB⟩
   replace ha:=U.below (U.dK ha) hB
   replace hb:=U.below (U.dK hb) hB
   replace gK:=gK.below hB
   clear hB mY
   go_wp2_with (fail)
   refine (HBb.out _ hb).mono ?_
   rintro e w2 ⟨rfl,hB⟩
   replace ha:=U.below (U.dK ha) hB
   replace hb:=U.below (U.dK hb) hB
   replace gK:=gK.below hB
   clear hB HBb
   go_wp2_with (fail)
   refine (HBa.out _ ha).mono ?_
   rintro e w3 ⟨rfl,hB⟩
   replace ha:=U.below (U.dK ha) hB
   replace hb:=U.below (U.dK hb) hB
   replace gK:=gK.below hB
   clear hB HBa
   go_wp2_with (fail)
   refine (Z7.out _ ha).mono ?_
   rintro e w4 ⟨v4,rfl,hv4,hB⟩
   replace ha:=U.below (U.dK ha) hB
   replace hb:=U.below (U.dK hb) hB
   replace gK:=gK.below hB
   clear hB Z7
   go_wp2_with (fail)
   refine (HBl.out _ _ hb).mono ?_
   rintro e w5 ⟨v5,R,rfl,hv5,hab,hB⟩
   replace ha:=U.below (U.dK ha) hB
   replace hb:=U.below (U.dK hb) hB
   replace hv4:=U.below (U.dK hv4) hB
   replace gK:=gK.below hB
   obtain ⟨l1,l2,l3,l4,l5,l6⟩:=HM6.out R hab.1 hab.2
   obtain ⟨hla,hlb,h0,hq,hr,aiG⟩:=HLL.out
   obtain ⟨M1,hM1⟩:∃ M1,a1*R=M1:=⟨_,rfl⟩
   obtain ⟨q0,hq0⟩:∃ q0,M1/2^k1=q0:=⟨_,rfl⟩
   rw [hM1] at l3
   rw [hM1,hq0] at l4
   rw [hM1,hq0] at l5
   rw [hM1,hq0] at l6
   have HMu:=Lib.hid (fun W (h:Un W v4 a1) (g:Un W v5 R)=>mulN W v4 v5 a1 R M1 h g (by omega) (by omega) hM1)
   have HS2:=Lib.hid (fun W u (h:Un W u M1)=>DK W u M1 (k1:Int) h (Int.natCast_nonneg _) (by omega) (by omega) q0 (by rw [Int.toNat_natCast];exact hq0))
   have HMe:=Lib.hid (fun W u (h:Un W va a) (h':Un W (.slice Ab L cb) b) (g:Un W u q0)=>Q9 W va _ u a b q0 q r h h' g (by omega) (by omega) (by omega) h0 l5 l6 hq hr)
   clear hB HBl hab l1 l2 l3 l4 l5 l6 hla hlb h0 hq hr hM1 hq0 HM6 HLL aiG
   go_wp2_with (fail)
   refine (HMu.out _ hv4 hv5).mono ?_
   rintro e w6 ⟨v6,rfl,hv6,hB⟩
   replace ha:=U.below (U.dK ha) hB
   replace hb:=U.below (U.dK hb) hB
   replace gK:=gK.below hB
   clear hB HMu hv4 hv5
   go_wp2_with (fail)
   refine (HS2.out _ _ hv6).mono ?_
   rintro e w7 ⟨v7,rfl,hv7,hB⟩
   replace ha:=U.below (U.dK ha) hB
   replace hb:=U.below (U.dK hb) hB
   replace gK:=gK.below hB
   clear hB HS2 hv6
   go_wp2_with (fail)
   refine (HMe.out _ _ ha hb hv7).mono ?_
   rintro e w8 ⟨⟨x,y,rfl,hx,hy⟩,hB⟩
   replace gK:=gK.below hB
   have HF:Hid (∃ x' y',Ending.returned (.tuple #[x,y,.int .i64 0]) = .returned (.tuple #[x',y',.int .i64 0])∧Un w8 x' q∧Un w8 y' r):=⟨_,_,rfl,hx,hy⟩
   clear hx hy hB HMe ha hb hv7
   go_wp2
   go_ret3
   exact ⟨HF.out,gK⟩
end Go.Proofs.YtfhcmggpojhegaaGreatDoor
namespace Go.Proofs.YtfhcmggpojhegaaGreatDoor
open Go.ChangeShapes Go.WideShapes Go.ChangeAt Go.RowKit
set_option linter.all false
set_option maxRecDepth 100000
set_option maxHeartbeats 8000000
theorem kL {P:Program} {k e:TypeId} {n:Nat} {W:World} (hu:P.underlying k=some (.array n e)) {r:Reach} {b0:Nat} {v:Value} (h:Value.okWide P W r b0 k v):∃ xs:Array Value,v = .agg xs∧xs.size=P.cellsOf k:=by
 simp only [Value.okWide,hu] at h
 obtain ⟨cs,h1,h2,_⟩:=h
 exact ⟨cs,h1,h2⟩
theorem oF {H:Type} {enc:TypeId × Value→H} {P:Program} {w:World} {base:Nat} {spare:Nat→Bool} {held:Bool} {t e:TypeId} {fuel:Nat} {c0 c1:Value} {x:DataW H × List MemPlace} (ht:P.underlying t=some (.array 2 e)) (hce:P.cellsOf e=1)
  (h:DataW.trod enc P w base spare held fuel t [c0,c1]=some x) :
  ∃ y0 y1 n,DataW.trod enc P w base spare held n e [c0]=some y0∧DataW.trod enc P w base spare held n e [c1]=some y1:=by
 cases fuel with
 | zero=>simp [DataW.trod] at h
 | succ n =>
  unfold DataW.trod at h
  rw [ht] at h
  have r2:List.range 2=[0,1]:=rfl
  simp [r2,hce] at h
  obtain ⟨_,h⟩:=h
  cases h0:DataW.trod enc P w base spare held n e [c0] with
  | none=>simp [h0] at h
  | some y0 =>
   cases h1:DataW.trod enc P w base spare held n e [c1] with
   | none=>simp [h0,h1] at h
   | some y1=>exact ⟨y0,y1,n,h0,h1⟩
theorem vU {H:Type} {enc:TypeId × Value→H} {W:World} {base:Nat} {v:Value} {d:DataW H} {ps:List MemPlace} (hval:Value.okWide Tryz.prog W .any base 23 v) (h:DataW.Trod enc Tryz.prog W 0 (fun _=>true) true 23 v d ps)
  (hlt:∀ p∈ps,p.block<W.heap.size):∃ (va vb:Value) (xs ys:List Nat),v = .agg #[va,vb]∧U W va xs∧U W vb ys:=by
 obtain ⟨cs,rfl,hsz⟩:=kL Tryz.underlying23 hval
 rw [show Tryz.prog.cellsOf 23 = 2 by kernel_rfl] at hsz
 obtain ⟨l⟩:=cs
 match l,hsz with
 | [c0,c1],_ =>
  obtain ⟨fuel,hf⟩:=h
  obtain ⟨y0,y1,n,h0,h1⟩:=oF Tryz.underlying23 (show Tryz.prog.cellsOf 22 = 1 by kernel_rfl) hf
  obtain ⟨VS,u0⟩:=fC h0
  obtain ⟨VT,u1⟩:=fC h1
  exact ⟨c0,c1,VS,VT,rfl,u0,u1⟩
end Go.Proofs.YtfhcmggpojhegaaGreatDoor
namespace Go.Proofs.YtfhcmggpojhegaaGreatDoor
open Go.RowKit
set_option linter.all false
set_option maxRecDepth 100000
set_option maxHeartbeats 8000000
theorem kM (n:Nat):sg false n=(n:Int):=rfl
theorem Ib.new2 (w:World) (o:Obj) (b:Bool) (m:Value) (T:TypeId):Ib ((w.alloc o).alloc (.cells #[.bool b,m] T)) (w.heap.size+1) b m:=by
 have:=Ib.new (w.alloc o) b m T
 simpa using this
theorem Ib.vV (w:World) (o o2:Obj) (b:Bool) (m:Value) (T:TypeId):Ib (((w.alloc o).alloc o2).alloc (.cells #[.bool b,m] T)) (w.heap.size+1+1) b m:=by
 have:=Ib.new2 (w.alloc o) o2 b m T
 simpa using this
end Go.Proofs.YtfhcmggpojhegaaGreatDoor
namespace Go.Proofs.YtfhcmggpojhegaaGreatDoor
open Go.RowKit
set_option linter.all false
set_option maxRecDepth 100000
set_option maxHeartbeats 8000000
theorem Ls (b:Bool) (n:Nat) (hb:b=true→n≠0):Int.sign (sg b n)=if n=0 then 0 else if b then -1 else 1:=by
 cases b
 · rw [kM]
   by_cases h:n=0
   · subst h;rfl
   · rw [if_neg h,if_neg (by decide)];exact Int.sign_eq_one_of_pos (by omega)
 · rw [um]
   have:=hb rfl
   rw [if_neg this,if_pos rfl];exact Int.sign_eq_neg_one_of_neg (by omega)
theorem F9 (w:World) (v:Value) (z:Int) (h:Zn w v z) (k:Int) (hk:Int.sign z=k) :
  Calls Tryz.prog 92 #[v] w fun e w'=>e = .returned (.int .i64 k)∧Ext w w':=by
 obtain ⟨b,A,L,c,n,rfl,hu,hL,hz,hb,hza,hzn⟩:=h.open
 have hE0:=(Ext.refl w).alloc (.cells #[.bool b,.slice A L c] 48)
 have hk2:=Ls b n hb
 rw [← hz,hk] at hk2
 have hcs:=nR n
 rw [hL] at hcs
 clear hz hza hzn hL hk h
 rcases hcs with ⟨h1,rfl⟩ | ⟨h1,h2⟩
 · rw [if_pos h1] at hk2
   subst hk2
   clear hb h1
   go_enter Tryz.func92,Tryz.ntmps92
   go_wp2
   go_ret
   exact ⟨rfl,hE0⟩
 · rw [if_neg h1] at hk2
   have h3:((L:Int)==0)=false:=by rw [beq_eq_false_iff_ne];omega
   have h4:¬ (L=0):=by omega
   cases b
   case' false=>rw [if_neg (by decide)] at hk2
   case' true=>rw [if_pos rfl] at hk2
   all_goals (
    subst hk2
    clear hb h1
    go_enter Tryz.func92,Tryz.ntmps92
    go_wp2
    go_ret
    exact ⟨rfl,hE0⟩)
end Go.Proofs.YtfhcmggpojhegaaGreatDoor
namespace Go.Proofs.YtfhcmggpojhegaaGreatDoor
open Go.RowKit
set_option linter.all false
set_option maxRecDepth 100000
set_option maxHeartbeats 8000000
theorem yO {w X Y:World} {p q:Bool} {mp mq:Value} (h:(w.heap.size+1+1<X.heap.size∧X.cell? ⟨w.heap.size,0,none⟩=some (.bool p)∧X.cell? ⟨w.heap.size,1,none⟩=some mp∧X.cell? ⟨w.heap.size+1,0,none⟩=some (.bool q)∧X.cell? ⟨w.heap.size+1,1,none⟩=some mq)∧Ext w X) (k:Ext X Y):(w.heap.size+1+1<Y.heap.size∧Y.cell? ⟨w.heap.size,0,none⟩=some (.bool p)∧Y.cell? ⟨w.heap.size,1,none⟩=some mp∧Y.cell? ⟨w.heap.size+1,0,none⟩=some (.bool q)∧Y.cell? ⟨w.heap.size+1,1,none⟩=some mq)∧Ext w Y:=by
 obtain ⟨⟨h0,h1,h2,h3,h4⟩,hx⟩:=h
 have hs:=k.size
 exact ⟨⟨by omega,(k.cell (p:=⟨w.heap.size,0,none⟩) (by show w.heap.size<_;omega)).trans h1,(k.cell (p:=⟨w.heap.size,1,none⟩) (by show w.heap.size<_;omega)).trans h2,(k.cell (p:=⟨w.heap.size+1,0,none⟩) (by show w.heap.size+1<_;omega)).trans h3,(k.cell (p:=⟨w.heap.size+1,1,none⟩) (by show w.heap.size+1<_;omega)).trans h4⟩,hx.below k⟩
theorem yP {w X:World} {p q:Bool} {mp mq x y:Value} (h:(w.heap.size+1+1<X.heap.size∧X.cell? ⟨w.heap.size,0,none⟩=some (.bool p)∧X.cell? ⟨w.heap.size,1,none⟩=some mp∧X.cell? ⟨w.heap.size+1,0,none⟩=some (.bool q)∧X.cell? ⟨w.heap.size+1,1,none⟩=some mq)∧Ext w X):(w.heap.size+1+1<((X.setCell ⟨w.heap.size+1+1,0,none⟩ x).setCell ⟨w.heap.size+1+1,1,none⟩ y).heap.size∧((X.setCell ⟨w.heap.size+1+1,0,none⟩ x).setCell ⟨w.heap.size+1+1,1,none⟩ y).cell? ⟨w.heap.size,0,none⟩=some (.bool p)∧((X.setCell ⟨w.heap.size+1+1,0,none⟩ x).setCell ⟨w.heap.size+1+1,1,none⟩ y).cell? ⟨w.heap.size,1,none⟩=some mp∧((X.setCell ⟨w.heap.size+1+1,0,none⟩ x).setCell ⟨w.heap.size+1+1,1,none⟩ y).cell? ⟨w.heap.size+1,0,none⟩=some (.bool q)∧((X.setCell ⟨w.heap.size+1+1,0,none⟩ x).setCell ⟨w.heap.size+1+1,1,none⟩ y).cell? ⟨w.heap.size+1,1,none⟩=some mq)∧Ext w ((X.setCell ⟨w.heap.size+1+1,0,none⟩ x).setCell ⟨w.heap.size+1+1,1,none⟩ y):=by
 obtain ⟨⟨h0,h1,h2,h3,h4⟩,hx⟩:=h
 have hc:∀ a:Addr,a.block≠w.heap.size+1+1→((X.setCell ⟨w.heap.size+1+1,0,none⟩ x).setCell ⟨w.heap.size+1+1,1,none⟩ y).cell? a=X.cell? a:=fun a ha=>by
  rw [World.cell?_setCell_other _ _ _ _ (fun e=>ha (by rw [← e])),World.cell?_setCell_other _ _ _ _ (fun e=>ha (by rw [← e]))]
 refine ⟨⟨by simpa using h0,?_,?_,?_,?_⟩,hx.dA (by omega) _ _⟩
 · rw [hc _ (by show w.heap.size≠_;omega)];exact h1
 · rw [hc _ (by show w.heap.size≠_;omega)];exact h2
 · rw [hc _ (by show w.heap.size+1≠_;omega)];exact h3
 · rw [hc _ (by show w.heap.size+1≠_;omega)];exact h4
theorem Um {w X Y:World} {p q:Bool} {mp mq:Value} (h:(w.heap.size+1<X.heap.size∧X.cell? ⟨w.heap.size,0,none⟩=some (.bool p)∧X.cell? ⟨w.heap.size,1,none⟩=some mp∧X.cell? ⟨w.heap.size+1,0,none⟩=some (.bool q)∧X.cell? ⟨w.heap.size+1,1,none⟩=some mq)∧Ext w X) (k:Ext X Y):(w.heap.size+1<Y.heap.size∧Y.cell? ⟨w.heap.size,0,none⟩=some (.bool p)∧Y.cell? ⟨w.heap.size,1,none⟩=some mp∧Y.cell? ⟨w.heap.size+1,0,none⟩=some (.bool q)∧Y.cell? ⟨w.heap.size+1,1,none⟩=some mq)∧Ext w Y:=by
 obtain ⟨⟨h0,h1,h2,h3,h4⟩,hx⟩:=h
 have hs:=k.size
 exact ⟨⟨by omega,(k.cell (p:=⟨w.heap.size,0,none⟩) (by show w.heap.size<_;omega)).trans h1,(k.cell (p:=⟨w.heap.size,1,none⟩) (by show w.heap.size<_;omega)).trans h2,(k.cell (p:=⟨w.heap.size+1,0,none⟩) (by show w.heap.size+1<_;omega)).trans h3,(k.cell (p:=⟨w.heap.size+1,1,none⟩) (by show w.heap.size+1<_;omega)).trans h4⟩,hx.below k⟩
end Go.Proofs.YtfhcmggpojhegaaGreatDoor
namespace Go.Proofs.YtfhcmggpojhegaaGreatDoor
open Go.RowKit
set_option linter.all false
set_option maxRecDepth 100000
set_option maxHeartbeats 8000000
theorem or2 (w:World) (g:Nat) (x y:Int) (h0:w.cell? ⟨g,0,none⟩=some (.int .i64 x)) (h1:w.cell? ⟨g,1,none⟩=some (.int .i64 y)) (r:Int) (hr:(if x=0 then y else x)=r) :
  Calls Tryz.prog 201 #[.slice (some ⟨g,0,none⟩) 2 2] w fun e w'=>e = .returned (.int .i64 r)∧Ext w w':=by
 go_enter Tryz.func201,Tryz.ntmps201
 go_wp2
 go_loopw [8] (fun t wr=>(t = .int .i64 0∨(t = .int .i64 1∧x=0)∨(t = .int .i64 2∧x=0∧y=0))∧wr=w) (fun t _=>2-(intOf t).toNat)
 case atStart=>exact ⟨.inl rfl,rfl⟩
 case round =>
  obtain ⟨rfl | ⟨rfl,hx⟩ | ⟨rfl,hx,hy⟩,rfl⟩:=hrel
  · by_cases hx:x=0
    · have q1:(x != 0)=false:=by rw [bne_eq_false_iff_eq];exact hx
      have HX:=Lib.hid hx
      clear hr hx
      go_wp2
      go_roundw
      case rel=>exact ⟨.inr (.inl ⟨rfl,HX.out⟩),by trivial⟩
      case measure=>simp [intOf]
    · have q1:(x != 0)=true:=by rw [bne_iff_ne];exact hx
      rw [if_neg hx] at hr
      have HR:=Lib.hid hr
      clear hr hx
      go_wp2
      go_ret
      exact ⟨by first | (rw [HR.out];done) | (rw [HR.out];rfl),Ext.refl _⟩
  · rw [if_pos hx] at hr
    have HR:=Lib.hid hr
    have HX:=Lib.hid hx
    clear hr hx
    by_cases hy:y=0
    · have q1:(y != 0)=false:=by rw [bne_eq_false_iff_eq];exact hy
      have HY:=Lib.hid hy
      clear hy
      go_wp2
      go_roundw
      case rel=>exact ⟨.inr (.inr ⟨rfl,HX.out,HY.out⟩),by trivial⟩
      case measure=>simp [intOf]
    · have q1:(y != 0)=true:=by rw [bne_iff_ne];exact hy
      clear hy
      go_wp2
      go_ret
      exact ⟨by first | (rw [HR.out];done) | (rw [HR.out];rfl),Ext.refl _⟩
  · rw [if_pos hx,hy] at hr
    have HR:=Lib.hid hr
    clear hr hx hy
    go_wp2
    go_ret
    exact ⟨by rw [← HR.out];first | done | rfl,Ext.refl _⟩
theorem abh (a b:Int):(if dY (Int.sign a) (Int.sign b)=0 then Int.sign a*dY (a.natAbs:Int) (b.natAbs:Int) else dY (Int.sign a) (Int.sign b))=dY a b:=by
 have hs:∀ z:Int,(z<0∧Int.sign z = -1)∨(z=0∧Int.sign z=0)∨(0<z∧Int.sign z=1):=fun z=>by
  rcases Int.lt_trichotomy z 0 with h | h | h
  · exact .inl ⟨h,Int.sign_eq_neg_one_of_neg h⟩
  · subst h;exact .inr (.inl ⟨rfl,rfl⟩)
  · exact .inr (.inr ⟨h,Int.sign_eq_one_of_pos h⟩)
 rcases hs a with ⟨h1,e1⟩ | ⟨h1,e1⟩ | ⟨h1,e1⟩<;>rcases hs b with ⟨h2,e2⟩ | ⟨h2,e2⟩ | ⟨h2,e2⟩<;>rw [e1,e2]<;>unfold dY<;>simp<;>(repeat' split)<;>omega
theorem OJ (x y:Int) : -1≤dY x y∧dY x y≤1:=by unfold dY;split<;>(try split)<;>omega
theorem OL (x:Int):Int.sign x = -1∨Int.sign x=0∨Int.sign x=1:=by
 rcases Int.lt_trichotomy x 0 with h | h | h
 · exact .inl (Int.sign_eq_neg_one_of_neg h)
 · subst h;exact .inr (.inl rfl)
 · exact .inr (.inr (Int.sign_eq_one_of_pos h))
theorem auG (w:World) (va vb:Value) (a b:Int) (ha:Zn w va a) (hb:Zn w vb b) (k:Int) (hk:dY a b=k) :
  Calls Tryz.prog 182 #[va,vb] w fun e w'=>e = .returned (.int .i64 k)∧Ext w w':=by
 have hcm:=abh a b
 rw [hk] at hcm
 obtain ⟨sa,hsa⟩:∃ s,Int.sign a=s:=⟨_,rfl⟩
 obtain ⟨sb,hsb⟩:∃ s,Int.sign b=s:=⟨_,rfl⟩
 have hSa:=Lib.hid (fun W h=>F9 W va a h sa hsa)
 have hSb:=Lib.hid (fun W h=>F9 W vb b h sb hsb)
 have hb1:=OL a
 rw [hsa] at hb1
 have ha':=ha
 have hb':=hb
 obtain ⟨p,A,L,c,n,rfl,hu,hL,hz,-,hza,hzn⟩:=ha.open
 obtain ⟨q,B,K,d,m,rfl,hv,hK,hz2,-,iF,jV⟩:=hb.open
 rw [hsa,hsb,hza,iF] at hcm
 obtain ⟨cm,aex⟩:∃ x,dY (n:Int) (m:Int)=x:=⟨_,rfl⟩
 obtain ⟨cc,hcc⟩:∃ x,dY sa sb=x:=⟨_,rfl⟩
 obtain ⟨pr,hpr⟩:∃ x,sa*cm=x:=⟨_,rfl⟩
 have hb2:=OJ n m
 rw [aex] at hb2
 have aBc : -1≤pr∧pr≤1:=by
  rcases hb1 with h | h | h<;>rw [h] at hpr<;>omega
 have hN:=Lib.hid (fun W (k:Ext w W)=>pU W (.slice A L c) (.slice B K d) n m (Un.below hu k) (Un.below hv k) cm aex)
 have hCp:=Lib.hid (fun W=>BH W sa sb)
 rw [hcc] at hCp
 rw [aex,hcc,hpr] at hcm
 have HO:=Lib.hid hcm
 have o1:sa*cm=pr:=hpr
 have o2:IntKind.i64.wrap pr=pr:=IntWalk.i64_in _ (by omega)
 have hE0:=(((Ext.refl w).alloc (.cells #[.bool p,.slice A L c] 48)).alloc (.cells #[.bool q,.slice B K d] 48)).drew
 have lC:=(Ib.new w p (.slice A L c) 48).ext (((Ext.refl _).alloc (.cells #[.bool q,.slice B K d] 48)).drew)
 have nL:=(Ib.new2 w (.cells #[.bool p,.slice A L c] 48) q (.slice B K d) 48).ext ((Ext.refl _).drew)
 have hS0:(w.heap.size+1<((w.alloc (.cells #[.bool p,.slice A L c] 48)).alloc (.cells #[.bool q,.slice B K d] 48)).drew.heap.size∧((w.alloc (.cells #[.bool p,.slice A L c] 48)).alloc (.cells #[.bool q,.slice B K d] 48)).drew.cell? ⟨w.heap.size,0,none⟩=some (.bool p)∧((w.alloc (.cells #[.bool p,.slice A L c] 48)).alloc (.cells #[.bool q,.slice B K d] 48)).drew.cell? ⟨w.heap.size,1,none⟩=some (.slice A L c)∧((w.alloc (.cells #[.bool p,.slice A L c] 48)).alloc (.cells #[.bool q,.slice B K d] 48)).drew.cell? ⟨w.heap.size+1,0,none⟩=some (.bool q)∧((w.alloc (.cells #[.bool p,.slice A L c] 48)).alloc (.cells #[.bool q,.slice B K d] 48)).drew.cell? ⟨w.heap.size+1,1,none⟩=some (.slice B K d))∧Ext w ((w.alloc (.cells #[.bool p,.slice A L c] 48)).alloc (.cells #[.bool q,.slice B K d] 48)).drew:=⟨⟨by simp,lC.2.1,lC.2.2.1,nL.2.1,nL.2.2.1⟩,hE0⟩
 clear hb1 hb2 hcm hcc hpr aex hsa hsb hza hzn iF jV hz hz2 hL hK hk lC nL hE0
 go_enter Tryz.func182,Tryz.ntmps182
 go_wp2
 go_region_held3 (fun X=>(w.heap.size+1<X.heap.size∧X.cell? ⟨w.heap.size,0,none⟩=some (.bool p)∧X.cell? ⟨w.heap.size,1,none⟩=some (.slice A L c)∧X.cell? ⟨w.heap.size+1,0,none⟩=some (.bool q)∧X.cell? ⟨w.heap.size+1,1,none⟩=some (.slice B K d))∧Ext w X)
  (first
   | assumption
   | exact hS0
   | exact Um (by assumption) (by assumption)
   | exact Um (by assumption) ((Ext.refl _).alloc _))
  (first
   | (go_at_call 92;((with_reducible refine (hSa.out _ (ha'.below (by go_split_ands;assumption))).mono ?_);rintro e w2 ⟨rfl,hE2⟩))
   | (go_at_call 92;((with_reducible refine (hSb.out _ (hb'.below (by go_split_ands;assumption))).mono ?_);rintro e w3 ⟨rfl,bJ⟩))
   | (go_at_call 85;((with_reducible refine (hCp.out _).mono ?_);rintro e w4 ⟨rfl,rfl⟩))
   | (go_at_call 31;((with_reducible refine (hN.out _ (by go_split_ands;assumption)).mono ?_);rintro e w5 ⟨rfl,bE⟩))
   | (go_at_call 201;(refine (or2 _ _ cc pr (by go_simp) (by go_simp) k HO.out).mono ?_);rintro e w6 ⟨rfl,bu⟩))
 go_wp2
 go_ret
 exact ⟨rfl,by go_split_ands;assumption⟩
end Go.Proofs.YtfhcmggpojhegaaGreatDoor
namespace Go.Proofs.YtfhcmggpojhegaaGreatDoor
open Go.RowKit
set_option linter.all false
set_option maxRecDepth 100000
set_option maxHeartbeats 8000000
theorem qh (w:World):(Instr.alloc 48 true (.tuple #[])).run Tryz.prog w = .ok (.pointer (some ⟨w.heap.size,0,none⟩)) (w.alloc (.cells #[.bool false,.slice none 0 0] 48)):=by go_simp
theorem mE {w:World} {N:Nat} {b0:Bool} {A0:Option Addr} {n0 c0:Nat} (h:Ib w N b0 (.slice A0 n0 c0)) (b:Bool) (A:Option Addr) (n c:Nat) :
  (Instr.storeAt 48 (.pointer (some ⟨N,0,none⟩)) (.agg #[.bool b,.slice A n c])).run Tryz.prog w = .ok () ((w.setCell ⟨N,0,none⟩ (.bool b)).setCell ⟨N,1,none⟩ (.slice A n c))∧Ib ((w.setCell ⟨N,0,none⟩ (.bool b)).setCell ⟨N,1,none⟩ (.slice A n c)) N b (.slice A n c):=by
 obtain ⟨h0,h1,h2,h3,h4⟩:=h
 refine ⟨?_,?_,?_,?_,?_,?_⟩
 all_goals go_simp
section
variable {L:List Oper} {S:World→Prop} {K:List (Nat × Value)→World→Prop} {i m d:Nat} {o:Oper} {x y:Operand} {r:List (Bool × Nat × Nat)} {l:List (Nat × Value)} {w:World} {b b0:Bool} {A A0:Option Addr} {n c n0 c0 N:Nat}
theorem bW (ho:Pl.nth L i=some o) (hp:o.op = .alloc 48) (hd:o.dst=some d) (hg:o.guard=none) (hS:∀ Y,Ext w Y→S Y)
  (h:∀ N w',Ext w w'→w.heap.size≤N→Ib w' N false (.slice none 0 0)→Pl.dO Tryz.prog L S K r ((d,.pointer (some ⟨N,0,none⟩))::l) w'):Pl.dO Tryz.prog L S K ((false,i,m)::r) l w:=by
 have e1:=(Ext.refl w).alloc (.cells #[.bool false,.slice none 0 0] 48)
 exact Pl.sM ho hp hd (by rw [hg];rfl) (qh w) (hS _ e1) (h _ _ e1 (Nat.le_refl _) (Ib.new w false (.slice none 0 0) 48))
theorem lG (ho:Pl.nth L i=some o) (hp:o.op = .store 48 x y) (hd:o.dst=none) (hg:o.guard=none) (hx:Pl.dF l x=some (.pointer (some ⟨N,0,none⟩))) (hy:Pl.dF l y=some (.agg #[.bool b,.slice A n c]))
  (hI:Ib w N b0 (.slice A0 n0 c0)) (hS:∀ Y,(∀ w0,Ext w0 w→w0.heap.size≤N→Ext w0 Y)→S Y)
  (h:∀ w',(∀ w0,Ext w0 w→w0.heap.size≤N→Ext w0 w')→(∀ v z,Zn w v z→Zn w' v z)→(∀ M b m,M≠N→Ib w M b m→Ib w' M b m)→Ib w' N b (.slice A n c)→Pl.dO Tryz.prog L S K r l w'):Pl.dO Tryz.prog L S K ((false,i,m)::r) l w:=by
 obtain ⟨r1,I1⟩:=mE hI b A n c
 have T1:∀ w0,Ext w0 w→w0.heap.size≤N→Ext w0 ((w.setCell ⟨N,0,none⟩ (.bool b)).setCell ⟨N,1,none⟩ (.slice A n c)):=fun w0 h hN=>h.dA hN _ _
 exact Pl.aW ho hp hd (by rw [hg];rfl) hx hy r1 (hS _ T1) (h _ T1 (fun v z hz=>hz.dA hI (aP _ _ _) _ _) (fun M b m hne hM=>hM.other hne _ _) I1)
end
end Go.Proofs.YtfhcmggpojhegaaGreatDoor
namespace Go.Proofs.YtfhcmggpojhegaaGreatDoor
open Go.RowKit
set_option linter.all false
set_option maxRecDepth 100000
set_option maxHeartbeats 8000000
theorem Ib.mag {X:World} {N:Nat} {b:Bool} {m:Value} (h:Ib X N b m):(Instr.loadAt 22 (.pointer (some ⟨N,1,none⟩))).run Tryz.prog X = .ok m X:=by
 obtain ⟨h0,h1,h2,h3,h4⟩:=h
 go_simp
section
variable {L:List Oper} {S:World→Prop} {K:List (Nat × Value)→World→Prop} {k:Bool} {i m d:Nat} {o:Oper} {x:Operand} {r:List (Bool × Nat × Nat)} {l:List (Nat × Value)} {w:World}
end
theorem Zn.mag {w:World} {p:Bool} {A:Option Addr} {n c:Nat} {z:Int} (h:Zn w (.agg #[.bool p,.slice A n c]) z):Un w (.slice A n c) z.natAbs:=by
 obtain ⟨A',c',e,hu⟩:=h
 simp only [Value.agg.injEq,Array.mk.injEq,List.cons.injEq,Value.slice.injEq] at e
 obtain ⟨_,⟨rfl,rfl,rfl⟩,_⟩:=e
 exact hu
end Go.Proofs.YtfhcmggpojhegaaGreatDoor
namespace Go.Proofs.YtfhcmggpojhegaaGreatDoor
open Go.RowKit
set_option linter.all false
set_option maxRecDepth 100000
set_option maxHeartbeats 8000000
theorem Un.Xf {w:World} {v:Value} {n:Nat} (h:Un w v n):∃ A c,v = .slice A (limbs n).length c:=by
 obtain ⟨A',c',e,_⟩:=h;exact ⟨A',c',e⟩
/-! Contracts. -/
/-! Comparisons of what nat.Cmp tells. -/
section
variable {P:Program} {T:TypeId} {x y:Operand} {n m:Nat}
end
/-! Numbers of the kinds. -/
section
variable {P:Program} {T:TypeId} {x y:Operand} {a b:Nat} {za zb:Int}
end
/-! Ways out of loops and blocks. -/
section
variable {P:Program} {Q:Exit→Act→World→Prop} {n:Nat} {ds:List Deferred} {cs:List Code} {l:List (Nat × Value)} {w:World}
end
section
variable {P:Program} {L:List Oper} {S:World→Prop} {K:List (Nat × Value)→World→Prop} {kk:Bool} {i m d:Nat} {o:Oper} {x y:Operand} {r:List (Bool × Nat × Nat)} {l:List (Nat × Value)} {w:World} {k:IntKind} {a b:Nat}
end
end Go.Proofs.YtfhcmggpojhegaaGreatDoor
namespace Go.Proofs.YtfhcmggpojhegaaGreatDoor
open Go.RowKit
set_option linter.all false
set_option maxRecDepth 100000
set_option maxHeartbeats 8000000
theorem Cb.bD {w:World} {N:Nat} {T:TypeId} {cs:List Value} (h:Cb w N T cs) (o:Nat) (part:List Value) (hp:(cs.drop o).take part.length=part) (ty:TypeId) (d:TypeDesc) (hu:Tryz.prog.underlying ty=some d) (hd:d.isRow=true) (hi:(Tryz.prog.info? ty).map (·.size)=some part.length) :
  (Instr.loadAt ty (.pointer (some ⟨N,o,none⟩))).run Tryz.prog w = .ok (.agg part.toArray) w :=
 run_loadAt_mid w N o ty part d (by
  have:=World.rangeAt_of_block h o part.length
  have e:(cs.toArray.extract o (o+part.length)).toList=part:=by
   rw [Array.toList_extract,List.extract_eq_take_drop,Nat.add_sub_cancel_left];exact hp
  rwa [e] at this) hu hd hi
end Go.Proofs.YtfhcmggpojhegaaGreatDoor
namespace Go.Proofs.YtfhcmggpojhegaaGreatDoor
open Go.RowKit
set_option linter.all false
set_option maxRecDepth 100000
set_option maxHeartbeats 8000000
section
variable {L:List Oper} {S:World→Prop} {K:List (Nat × Value)→World→Prop} {k:Bool} {i m d:Nat} {o:Oper} {x y:Operand} {r:List (Bool × Nat × Nat)} {l:List (Nat × Value)} {w:World}
theorem Cz {t:Array TypeId} {a b:Int} (hS:S w) (ho:Pl.nth L i=some o) (hop:o.op = .call { callee:=.builtin .min,args:=#[x,y],argTypes:=t }) (hd:o.dst=some d) (hg:Pl.gd L l o.guard=some true) (hx:Pl.dF l x=some (.int .i64 a)) (hy:Pl.dF l y=some (.int .i64 b))
  (h:Pl.dO Tryz.prog L S K r ((d,.int .i64 (if b<a then b else a))::l) w):Pl.dO Tryz.prog L S K ((k,i,m)::r) l w :=
 Pl.dB hS ho hd hg (fun ρ hρ X _=>by
  unfold execOp;rw [hop]
  refine Pl.fJ (Builtin.min_ _ _ (#[x,y].map ρ)) X ?_
  rw [show #[x,y].map ρ=#[.int .i64 a,.int .i64 b] from by simp [hρ.dF hx,hρ.dF hy]]
  exact run_min_int2 _ _ _ _ _ _ _) h
end
end Go.Proofs.YtfhcmggpojhegaaGreatDoor
namespace Go.Proofs.YtfhcmggpojhegaaGreatDoor
open Go.RowKit
set_option linter.all false
set_option maxRecDepth 100000
set_option maxHeartbeats 8000000
theorem Ga (p q:Bool) (n m:Nat):sg (!(p==q)) (n*m)=sg p n*sg q m:=by
 cases p<;>cases q<;>simp [sg,Int.mul_neg,Int.neg_mul]
theorem lT (w:World) (va vb:Value) (a b:Int) (ha:Zn w va a) (hb:Zn w vb b) (hl:(limbs a.natAbs).length≤398) (hl2:(limbs b.natAbs).length≤398) (y:Int) (hy:a*b=y) :
  Calls Tryz.prog 38 #[va,vb] w fun e w'=>∃ u,e = .returned u∧Zn w' u y∧Ext w w':=by
 obtain ⟨p,A,L,c,n,rfl,hu,hL,hz,-,hza,hzn⟩:=ha.open
 obtain ⟨q,B,K,d,m,rfl,hv,hK,hz2,-,iF,jV⟩:=hb.open
 rw [hza] at hl
 rw [iF] at hl2
 obtain ⟨k,hk⟩:∃ k,n*m=k:=⟨_,rfl⟩
 have hM:=Lib.hid (fun W h g=>mulN W (.slice A L c) (.slice B K d) n m k h g hl hl2 hk)
 have Vy:=Lib.hid (fun W v (h:Un W v k)=>iq W (!(p==q)) v (limbs k) h k (aO _) y (by rw [← hk,Ga,← hz,← hz2];exact hy))
 have hE0:=((((Ext.refl w).alloc (.cells #[.bool p,.slice A L c] 48)).alloc (.cells #[.bool q,.slice B K d] 48)).alloc (.cells #[.bool false,.slice none 0 0] 48)).drew
 have hI0:=(Ib.vV w (.cells #[.bool p,.slice A L c] 48) (.cells #[.bool q,.slice B K d] 48) false (.slice none 0 0) 48).ext (Ext.refl _).drew
 have lC:=(Ib.new w p (.slice A L c) 48).ext ((((Ext.refl _).alloc (.cells #[.bool q,.slice B K d] 48)).alloc (.cells #[.bool false,.slice none 0 0] 48)).drew)
 have nL:=(Ib.new2 w (.cells #[.bool p,.slice A L c] 48) q (.slice B K d) 48).ext (((Ext.refl _).alloc (.cells #[.bool false,.slice none 0 0] 48)).drew)
 have hu0:=hu.below hE0
 have hv0:=hv.below hE0
 obtain ⟨p0,p1,p2,p3,p4⟩:=id lC
 obtain ⟨q0,q1,q2,q3,q4⟩:=id nL
 clear hl hl2 hza hzn iF jV hz hz2 hL hK ha hb hy hk
 go_enter Tryz.func38,Tryz.ntmps38
 have hS0:(w.heap.size+1+1<(((w.alloc (.cells #[.bool p,.slice A L c] 48)).alloc (.cells #[.bool q,.slice B K d] 48)).alloc (.cells #[.bool false,.slice none 0 0] 48)).drew.heap.size∧(((w.alloc (.cells #[.bool p,.slice A L c] 48)).alloc (.cells #[.bool q,.slice B K d] 48)).alloc (.cells #[.bool false,.slice none 0 0] 48)).drew.cell? ⟨w.heap.size,0,none⟩=some (.bool p)∧(((w.alloc (.cells #[.bool p,.slice A L c] 48)).alloc (.cells #[.bool q,.slice B K d] 48)).alloc (.cells #[.bool false,.slice none 0 0] 48)).drew.cell? ⟨w.heap.size,1,none⟩=some (.slice A L c)∧(((w.alloc (.cells #[.bool p,.slice A L c] 48)).alloc (.cells #[.bool q,.slice B K d] 48)).alloc (.cells #[.bool false,.slice none 0 0] 48)).drew.cell? ⟨w.heap.size+1,0,none⟩=some (.bool q)∧(((w.alloc (.cells #[.bool p,.slice A L c] 48)).alloc (.cells #[.bool q,.slice B K d] 48)).alloc (.cells #[.bool false,.slice none 0 0] 48)).drew.cell? ⟨w.heap.size+1,1,none⟩=some (.slice B K d))∧Ext w (((w.alloc (.cells #[.bool p,.slice A L c] 48)).alloc (.cells #[.bool q,.slice B K d] 48)).alloc (.cells #[.bool false,.slice none 0 0] 48)).drew:=⟨⟨by simp,p1,p2,q1,q2⟩,hE0⟩
 clear p0 p1 p2 p3 p4 q0 q1 q2 q3 q4
 go_wp2
 go_region_held3 (fun X=>(w.heap.size+1+1<X.heap.size∧X.cell? ⟨w.heap.size,0,none⟩=some (.bool p)∧X.cell? ⟨w.heap.size,1,none⟩=some (.slice A L c)∧X.cell? ⟨w.heap.size+1,0,none⟩=some (.bool q)∧X.cell? ⟨w.heap.size+1,1,none⟩=some (.slice B K d))∧Ext w X)
  (first
   | exact hS0
   | exact yO (by assumption) (by assumption)
   | exact yP (by assumption))
  (first
   | (go_at_call 17;((with_reducible refine (hM.out _ hu0 hv0).mono ?_);rintro e w2 ⟨u,rfl,hu2,hE2⟩;obtain ⟨A2,c2,rfl,hc2⟩:=Un.sh hu2))
   | (go_at_call 35;((with_reducible refine (Vy.out _ _ hu2).mono ?_);rintro e w3 ⟨u,rfl,hz3,bJ⟩;obtain ⟨b3,A3,L3,c3,rfl⟩:=hz3.sh;have kH:=(hI0.ext hE2).ext bJ;obtain ⟨i0,i1,i2,i3,i4⟩:=id kH)))
 clear kH hM Vy
 go_wp2
 (try simp only [Exit.inBlock,Exit.then])
 refine bodyPost_ret (v:=.agg #[.bool b3,.slice A3 L3 c3]) (show (results _ _).run _ _=_ from ?_) rfl ⟨_,rfl,hz3.dA ((hI0.ext hE2).ext bJ) (aP _ _ _) _ _,((hE0.below hE2).below bJ).dA (by omega) _ _⟩
 simp only [results]
 go_simp
end Go.Proofs.YtfhcmggpojhegaaGreatDoor
namespace Go.Proofs.YtfhcmggpojhegaaGreatDoor
open Go.RowKit
set_option linter.all false
set_option maxRecDepth 100000
set_option maxHeartbeats 8000000
theorem NS (w:World) (b:Bool) (A:Option Addr) (L c n:Nat) (hu:Un w (.slice A L c) n) (vm:Value) (m:Nat) (hv:Un w vm m) (hl:(limbs n).length≤1000000) (hl2:(limbs m).length≤1000000) (y:Int) (hy:sg b (n+m)=y) :
  Calls Tryz.prog 93 #[.agg #[.bool b,.slice A L c],vm] w fun e w'=>∃ u,e = .returned u∧Zn w' u y∧Ext w w':=by
 obtain ⟨A1,c1,rfl,-⟩:=Un.sh hv
 obtain ⟨L1,hL1⟩:∃ L,(limbs m).length=L:=⟨_,rfl⟩
 have hA:=Lib.hid (fun W h g=>jA W (.slice A L c) (.slice A1 (limbs m).length c1) n m h g (by omega) (by omega) _ rfl)
 rw [hL1] at hA hv ⊢
 have hE0:=(((Ext.refl w).alloc (.cells #[.bool b,.slice A L c] 131)).alloc (.cells #[.bool false,.slice none 0 0] 48)).drew
 have hI0:=(Ib.new2 w (.cells #[.bool b,.slice A L c] 131) false (.slice none 0 0) 48).ext (Ext.refl _).drew
 have lC:=(Ib.new w b (.slice A L c) 131).ext ((Ext.refl _).alloc (.cells #[.bool false,.slice none 0 0] 48)).drew
 have hu0:=hu.below hE0
 have hv0:=hv.below hE0
 have hM:=Lib.hid (fun W v h=>iq W b v (limbs (n+m)) h (n+m) (aO _) y hy)
 obtain ⟨p0,p1,p2,p3,p4⟩:=id lC
 clear hy hL1
 go_enter Tryz.func93,Tryz.ntmps93
 go_wp2
 go_region_with (first
  | (go_at_call 13;refine (hA.out _ hu0 hv0).mono ?_;rintro e w2 ⟨u,rfl,hu2,hE2⟩;obtain ⟨A2,c2,rfl,hc2⟩:=Un.sh hu2;obtain ⟨p0,p1,p2,p3,p4⟩:=lC.ext hE2)
  | (go_at_call 35;refine (hM.out _ _ hu2).mono ?_;rintro e w3 ⟨u,rfl,hz3,bJ⟩;obtain ⟨b3,A3,L3,c3,rfl⟩:=hz3.sh;have kH:=(hI0.ext hE2).ext bJ;obtain ⟨i0,i1,i2,i3,i4⟩:=id kH))
 all_goals (
  clear kH hA hM
  go_wp2
  (try simp only [Exit.inBlock,Exit.then])
  refine bodyPost_ret (v:=.agg #[.bool b3,.slice A3 L3 c3]) (show (results _ _).run _ _=_ from ?_) rfl ⟨_,rfl,hz3.dA ((hI0.ext hE2).ext bJ) (aP _ _ _) _ _,((hE0.below hE2).below bJ).dA (by simp) _ _⟩
  simp only [results]
  go_simp)
end Go.Proofs.YtfhcmggpojhegaaGreatDoor
namespace Go.Proofs.YtfhcmggpojhegaaGreatDoor
open Go.RowKit
set_option linter.all false
set_option maxRecDepth 100000
set_option maxHeartbeats 8000000
theorem AZ (w:World) (b:Bool) (A:Option Addr) (L c n:Nat) (hu:Un w (.slice A L c) n) (vm:Value) (m:Nat) (hv:Un w vm m) (hl:(limbs n).length≤1000000) (hl2:(limbs m).length≤1000000) (y:Int) (hy:(if m≤n then sg b (n-m) else sg (!b) (m-n))=y) :
  Calls Tryz.prog 94 #[.agg #[.bool b,.slice A L c],vm] w fun e w'=>∃ u,e = .returned u∧Zn w' u y∧Ext w w':=by
 obtain ⟨A1,c1,rfl,-⟩:=Un.sh hv
 obtain ⟨L1,hL1⟩:∃ L,(limbs m).length=L:=⟨_,rfl⟩
 obtain ⟨q,hq⟩:∃ q,decide (m≤n)=q:=⟨_,rfl⟩
 obtain ⟨d,hd⟩:∃ d,n-m=d:=⟨_,rfl⟩
 obtain ⟨d2,hd2⟩:∃ d,m-n=d:=⟨_,rfl⟩
 have hA:=Lib.hid (fun W h g=>vF W (.slice A L c) (.slice A1 (limbs m).length c1) n m h g (by omega) q hq d hd)
 have hA2:=Lib.hid (fun W h g=>vF W (.slice A1 (limbs m).length c1) (.slice A L c) m n h g (by omega) _ rfl d2 hd2)
 rw [hL1] at hA hA2 hv ⊢
 rw [hd,hd2] at hy
 have hE0:=((Ext.refl w).alloc (.cells #[.bool b,.slice A L c] 131)).alloc (.cells #[.bool false,.slice none 0 0] 48)
 have hI0:=Ib.new2 w (.cells #[.bool b,.slice A L c] 131) false (.slice none 0 0) 48
 have lC:=(Ib.new w b (.slice A L c) 131).ext ((Ext.refl _).alloc (.cells #[.bool false,.slice none 0 0] 48))
 have hu0:=hu.below hE0
 have hv0:=hv.below hE0
 obtain ⟨p0,p1,p2,p3,p4⟩:=id lC
 by_cases h0:m≤n
 · rw [if_pos h0] at hy
   rw [decide_eq_true h0] at hq
   subst hq
   have hM:=Lib.hid (fun W v h=>iq W b v (limbs d) h d (aO _) y hy)
   clear hy hL1 hA2 hd hd2 h0
   go_enter Tryz.func94,Tryz.ntmps94
   go_wp2_with (first
    | (go_at_call 127;refine (hA.out _ hu0 hv0).mono ?_;rintro e w2 ⟨u,rfl,hu2,hE2⟩;obtain ⟨A2,c2,rfl,hc2⟩:=Un.sh hu2;obtain ⟨p0,p1,p2,p3,p4⟩:=lC.ext hE2)
    | (go_at_call 35;refine (hM.out _ _ hu2).mono ?_;rintro e w3 ⟨u,rfl,hz3,bJ⟩;obtain ⟨b3,A3,L3,c3,rfl⟩:=hz3.sh;have kH:=(hI0.ext hE2).ext bJ;obtain ⟨i0,i1,i2,i3,i4⟩:=id kH))
   (try simp only [Exit.inBlock,Exit.then])
   refine bodyPost_ret (v:=.agg #[.bool b3,.slice A3 L3 c3]) (show (results _ _).run _ _=_ from ?_) rfl ⟨_,rfl,hz3.dA ((hI0.ext hE2).ext bJ) (aP _ _ _) _ _,((hE0.below hE2).below bJ).dA (by simp) _ _⟩
   simp only [results]
   go_simp
 · rw [if_neg h0] at hy
   rw [decide_eq_false h0] at hq
   subst hq
   have hM:=Lib.hid (fun W v h=>iq W (!b) v (limbs d2) h d2 (aO _) y hy)
   clear hy hL1 hd hd2 h0
   go_enter Tryz.func94,Tryz.ntmps94
   go_upto_region 4 with (go_at_call 127;refine (hA.out _ hu0 hv0).mono ?_;rintro e w2 ⟨u,rfl,hu2,hE2⟩;obtain ⟨A2,c2,rfl,hc2⟩:=Un.sh hu2;obtain ⟨p0,p1,p2,p3,p4⟩:=lC.ext hE2)
   go_wp2_with (first
    | (go_at_call 127;refine (hA2.out _ (Un.below hv0 hE2) (Un.below hu0 hE2)).mono ?_;rintro e w4 ⟨u,rfl,BV,bX⟩;obtain ⟨A4,c4,rfl,hc4⟩:=Un.sh BV;obtain ⟨p0,p1,p2,p3,p4⟩:=(lC.ext hE2).ext bX)
    | (go_at_call 35;refine (hM.out _ _ BV).mono ?_;rintro e w3 ⟨u,rfl,hz3,bJ⟩;obtain ⟨b3,A3,L3,c3,rfl⟩:=hz3.sh;have kH:=((hI0.ext hE2).ext bX).ext bJ;obtain ⟨i0,i1,i2,i3,i4⟩:=id kH))
   (try simp only [Exit.inBlock,Exit.then])
   refine bodyPost_ret (v:=.agg #[.bool b3,.slice A3 L3 c3]) (show (results _ _).run _ _=_ from ?_) rfl ⟨_,rfl,hz3.dA (((hI0.ext hE2).ext bX).ext bJ) (aP _ _ _) _ _,(((hE0.below hE2).below bX).below bJ).dA (by simp) _ _⟩
   simp only [results]
   go_simp
theorem jK (b:Bool) (n m:Nat):sg b (n+m)=sg b n+sg b m:=by cases b<;>simp [sg]<;>omega
theorem je (b:Bool) (n m:Nat):(if m≤n then sg b (n-m) else sg (!b) (m-n))=sg b n+sg (!b) m:=by
 cases b<;>simp only [sg,Bool.not_false,Bool.not_true,if_true,if_false,Bool.false_eq_true]<;>split<;>omega
theorem CB (w:World) (va vb:Value) (a b:Int) (ha:Zn w va a) (hb:Zn w vb b) (hl:(limbs a.natAbs).length≤1000000) (hl2:(limbs b.natAbs).length≤1000000) (y:Int) (hy:a+b=y) :
  Calls Tryz.prog 37 #[va,vb] w fun e w'=>∃ u,e = .returned u∧Zn w' u y∧Ext w w':=by
 have hmf:∀ (fn:Fn) (first cap:Array Value) (w:World),(Instr.makeFunc fn first cap).run Tryz.prog w = .ok (.func fn first cap) w:=fun _ _ _ _=>rfl
 obtain ⟨p,A,L,c,n,rfl,hu,hL,hz,-,hza,hzn⟩:=ha.open
 obtain ⟨q,B,K,d,m,rfl,hv,hK,hz2,-,iF,jV⟩:=hb.open
 rw [hza] at hl
 rw [iF] at hl2
 have hE0:=(((Ext.refl w).alloc (.cells #[.bool p,.slice A L c] 48)).alloc (.cells #[.bool q,.slice B K d] 48)).alloc (.cells #[.bool false,.slice none 0 0] 48)
 have hI0:=Ib.vV w (.cells #[.bool p,.slice A L c] 48) (.cells #[.bool q,.slice B K d] 48) false (.slice none 0 0) 48
 have hu0:=hu.below hE0
 have hv0:=hv.below hE0
 have hG:=Lib.hid (fun W h g (e:sg p (n+m)=y)=>NS W p A L c n h (.slice B K d) m g hl hl2 y e)
 have hS:=Lib.hid (fun W h g (e:(if m≤n then sg p (n-m) else sg (!p) (m-n))=y)=>AZ W p A L c n h (.slice B K d) m g hl hl2 y e)
 rw [hz,hz2] at hy
 have HY:=Lib.hid hy
 clear hl hl2 hza hzn iF jV hz hz2 hL hK ha hb hy
 cases p<;>cases q
 case' false.false=>have HC:=Lib.hid (hG.out _ hu0 hv0 ((jK _ _ _).trans HY.out))
 case' true.true=>have HC:=Lib.hid (hG.out _ hu0 hv0 ((jK _ _ _).trans HY.out))
 case' true.false=>have HC:=Lib.hid (hS.out _ hu0 hv0 ((je _ _ _).trans HY.out))
 case' false.true=>have HC:=Lib.hid (hS.out _ hu0 hv0 ((je _ _ _).trans HY.out))
 all_goals (
  clear hG hS
  go_enter Tryz.func37,Tryz.ntmps37
  go_wp2_with (first
   | (go_at_call 93;refine HC.out.mono ?_;rintro e w3 ⟨u,rfl,hz3,bJ⟩;obtain ⟨b3,A3,L3,c3,rfl⟩:=hz3.sh;have kH:=hI0.ext bJ;obtain ⟨i0,i1,i2,i3,i4⟩:=id kH)
   | (go_at_call 94;refine HC.out.mono ?_;rintro e w3 ⟨u,rfl,hz3,bJ⟩;obtain ⟨b3,A3,L3,c3,rfl⟩:=hz3.sh;have kH:=hI0.ext bJ;obtain ⟨i0,i1,i2,i3,i4⟩:=id kH))
  (try simp only [Exit.inBlock,Exit.then])
  refine bodyPost_ret (v:=.agg #[.bool b3,.slice A3 L3 c3]) (show (results _ _).run _ _=_ from ?_) rfl ⟨_,rfl,hz3.dA (hI0.ext bJ) (aP _ _ _) _ _,(hE0.below bJ).dA (by omega) _ _⟩
  simp only [results]
  go_simp)
end Go.Proofs.YtfhcmggpojhegaaGreatDoor
namespace Go.Proofs.YtfhcmggpojhegaaGreatDoor
open Go.RowKit
set_option linter.all false
set_option maxRecDepth 100000
set_option maxHeartbeats 8000000
namespace EGE
set_option linter.all false
set_option maxRecDepth 100000
set_option maxHeartbeats 8000000
theorem jm (u:Array Value) (X:World):(callFunc 35 u).run Tryz.prog X = .ok (.enter 35 u) X:=Pl.enters Tryz.func35 (by kernel_rfl) rfl u X
end EGE
open EGE
theorem eH (w:World) (v:Value) (n:Nat) (h:Un w v n):Calls Tryz.prog 35 #[.bool false,v] w fun e w'=>∃ u,e = .returned u∧Zn w' u (n:Int)∧Ext w w' :=
 iq w false v (limbs n) h n (aO _) (n:Int) (kM n)
section
variable {L:List Oper} {S:World→Prop} {K:List (Nat × Value)→World→Prop} {i m:Nat} {o:Oper} {x y:Operand} {r:List (Bool × Nat × Nat)} {l:List (Nat × Value)} {w:World} {N n0 c0 n c:Nat} {b0 b:Bool} {A0 A:Option Addr}
end
end Go.Proofs.YtfhcmggpojhegaaGreatDoor
namespace Go.Proofs.YtfhcmggpojhegaaGreatDoor
open Go.RowKit
set_option linter.all false
set_option maxRecDepth 100000
set_option maxHeartbeats 8000000
namespace EGH
set_option linter.all false
set_option maxRecDepth 100000
set_option maxHeartbeats 8000000
theorem jm (u:Array Value) (X:World):(callFunc 35 u).run Tryz.prog X = .ok (.enter 35 u) X:=Pl.enters Tryz.func35 (by kernel_rfl) rfl u X
end EGH
open EGH
end Go.Proofs.YtfhcmggpojhegaaGreatDoor
namespace Go.Proofs.YtfhcmggpojhegaaGreatDoor
open Go.RowKit
set_option linter.all false
set_option maxRecDepth 100000
set_option maxHeartbeats 8000000
section
variable {L:List Oper} {S:World→Prop} {K:List (Nat × Value)→World→Prop} {k:Bool} {i m d:Nat} {o:Oper} {x y:Operand} {r:List (Bool × Nat × Nat)} {l:List (Nat × Value)} {w:World}
theorem RB {T:TypeId} {cs:List Value} (ho:Pl.nth L i=some o) (hp:o.op = .box T x) (hd:o.dst=some d) (hg:o.guard=none) (hx:Pl.dF l x=some (.agg cs.toArray)) (hS:∀ Y,Ext w Y→S Y)
  (h:∀ N w',Ext w w'→w.heap.size≤N→Cb w' N T cs→Pl.dO Tryz.prog L S K r ((d,.pointer (some ⟨N,0,none⟩))::l) w'):Pl.dO Tryz.prog L S K ((false,i,m)::r) l w:=by
 have e1:=(Ext.refl w).alloc (.cells cs.toArray T)
 refine Pl.mh (w':=w.alloc (.cells cs.toArray T)) (v:=.pointer (some ⟨w.heap.size,0,none⟩)) ho hd (by rw [hg];rfl) (fun ρ hρ=>?_) (hS _ e1) (h _ _ e1 (Nat.le_refl _) (Cb.new w T cs))
 unfold execOp;rw [hp]
 refine Pl.kJ _ ?_
 rw [hρ.dF hx]
 simp [Instr.box,Sem.run_bind,newVar,newRow,Value.cells]
theorem OM {T:TypeId} {u v:Value} {j:Int} (hS:S w) (ho:Pl.nth L i=some o) (hp:o.op = .index T x y) (hd:o.dst=some d) (hg:Pl.gd L l o.guard=some true) (hx:Pl.dF l x=some u) (hy:Pl.dF l y=some (.int .i64 j))
  (hr:∀ X,(Instr.index T u (.int .i64 j)).run Tryz.prog X = .ok v X)
  (h:Pl.dO Tryz.prog L S K r ((d,v)::l) w):Pl.dO Tryz.prog L S K ((k,i,m)::r) l w :=
 Pl.dB hS ho hd hg (fun ρ hρ X _=>by
  unfold execOp;rw [hp]
  refine Pl.fJ _ X ?_
  rw [hρ.dF hx,hρ.dF hy]
  exact hr X) h
end
def rW (cs:List Value):Nat→List Value→List Value
 | _,[]=>cs
 | o,v::vs=>rW (cs.set o v) (o+1) vs
theorem Cb.rW {N:Nat} {T:TypeId}:∀ (vs:List Value) (o:Nat) {w:World} {cs:List Value},Cb w N T cs→Cb (w.setCells N o vs) N T (rW cs o vs)
 | [],_,_,_,h=>h
 | v::vs,o,_,_,h=>Cb.rW vs (o+1) (Cb.set h o v)
theorem OO {cs:List Value} {v:Value} (o:Nat) (h:∀ c∈cs,gF c) (hv:gF v):∀ c∈cs.set o v,gF c:=fun c hc=>by
 rcases List.mem_or_eq_of_mem_set hc with h1 | h1
 · exact h c h1
 · rw [h1];exact hv
theorem Xt.rW {N:Nat} {T:TypeId}:∀ (vs:List Value) (o:Nat) {w:World} {cs:List Value},Cb w N T cs→(∀ c∈cs,gF c)→(∀ c∈vs,gF c)→Xt [N] w (w.setCells N o vs)
 | [],_,w,_,_,_,_=>Xt.refl _ w
 | v::vs,o,_,_,h,hc,hv=>(Xt.set h hc (by simp) o v).trans (Xt.rW vs (o+1) (Cb.set h o v) (OO o hc (hv v (by simp))) fun c hc=>hv c (by simp [hc]))
theorem Cb.zw {w:World} {N:Nat} {T:TypeId} {cs:List Value} (h:Cb w N T cs) (o:Nat) (vs:List Value) (hl:o+vs.length≤cs.length) (ty:TypeId) (hi:(Tryz.prog.info? ty).map (·.size)=some vs.length) (h1:∀ v∈vs,v.oneCell'=true) :
  (Instr.storeAt ty (.pointer (some ⟨N,o,none⟩)) (.agg vs.toArray)).run Tryz.prog w = .ok () (w.setCells N o vs):=by
 have ht:w.there N o vs.toArray.size:=fun j hj=>by
  have hj:j<vs.length:=by simpa using hj
  have hlt:o+j<cs.length:=by omega
  refine ⟨by rw [h.cellAt (List.getElem?_eq_getElem hlt)];rfl,?_⟩
  unfold Cb at h
  simp [World.frozen?,h]
 have:=run_storeAt_mid (P:=Tryz.prog) w N o ty vs.toArray ht (by simpa using hi) (all_oneCell_toArray h1)
 simpa using this
theorem uI (N:Nat) (X:World):(Instr.indexAt 110 (.pointer (some ⟨N,0,none⟩)) (.int .i64 0)).run Tryz.prog X = .ok (.pointer (some ⟨N,0,none⟩)) X:=by go_simp
theorem dS (N:Nat) (X:World):(Instr.indexAt 108 (.pointer (some ⟨N,0,none⟩)) (.int .i64 0)).run Tryz.prog X = .ok (.pointer (some ⟨N,0,none⟩)) X:=by go_simp
theorem Md (N:Nat) (X:World):(Instr.indexAt 108 (.pointer (some ⟨N,4,none⟩)) (.int .i64 0)).run Tryz.prog X = .ok (.pointer (some ⟨N,4,none⟩)) X:=by go_simp
theorem uJ (N:Nat) (X:World):(Instr.indexAt 110 (.pointer (some ⟨N,0,none⟩)) (.int .i64 1)).run Tryz.prog X = .ok (.pointer (some ⟨N,4,none⟩)) X:=by go_simp
theorem dI (N:Nat) (X:World):(Instr.indexAt 108 (.pointer (some ⟨N,0,none⟩)) (.int .i64 1)).run Tryz.prog X = .ok (.pointer (some ⟨N,2,none⟩)) X:=by go_simp
theorem Me (N:Nat) (X:World):(Instr.indexAt 108 (.pointer (some ⟨N,4,none⟩)) (.int .i64 1)).run Tryz.prog X = .ok (.pointer (some ⟨N,6,none⟩)) X:=by go_simp
theorem auH (c0 c1 c2 c3 c4 c5 c6 c7:Value) (X:World):(Instr.index 110 (.agg #[c0,c1,c2,c3,c4,c5,c6,c7]) (.int .i64 0)).run Tryz.prog X = .ok (.agg #[c0,c1,c2,c3]) X:=by
 have hu:Tryz.prog.underlying 110 = some (.array 2 108):=by kernel_rfl
 have hs:(Tryz.prog.info? 108).map (·.size)=some 4:=by kernel_rfl
 obtain ⟨i,hi,hi2⟩:=Option.map_eq_some_iff.1 hs
 have ha:(Tryz.prog.underlying 108)=some (.array 2 48):=by kernel_rfl
 simp [Instr.index,Sem.run_bind,run_underlying hu,asIntOf,sizeOf,typeInfo,hi,hi2,Result.andThen,part,run_underlying ha,isAgg]
theorem auI (c0 c1 c2 c3 c4 c5 c6 c7:Value) (X:World):(Instr.index 110 (.agg #[c0,c1,c2,c3,c4,c5,c6,c7]) (.int .i64 1)).run Tryz.prog X = .ok (.agg #[c4,c5,c6,c7]) X:=by
 have hu:Tryz.prog.underlying 110 = some (.array 2 108):=by kernel_rfl
 have hs:(Tryz.prog.info? 108).map (·.size)=some 4:=by kernel_rfl
 obtain ⟨i,hi,hi2⟩:=Option.map_eq_some_iff.1 hs
 have ha:(Tryz.prog.underlying 108)=some (.array 2 48):=by kernel_rfl
 simp [Instr.index,Sem.run_bind,run_underlying hu,asIntOf,sizeOf,typeInfo,hi,hi2,Result.andThen,part,run_underlying ha,isAgg]
theorem nW (w:World) (p0:Bool) (A0:Option Addr) (n0 c0:Nat) (z0:Int) (p1:Bool) (A1:Option Addr) (n1 c1:Nat) (z1:Int) (p2:Bool) (A2:Option Addr) (n2 c2:Nat) (z2:Int) (p3:Bool) (A3:Option Addr) (n3 c3:Nat) (z3:Int) (h0:Zn w (.agg #[.bool p0,.slice A0 n0 c0]) z0) (b0:Sz z0 10) (h1:Zn w (.agg #[.bool p1,.slice A1 n1 c1]) z1) (b1:Sz z1 10) (h2:Zn w (.agg #[.bool p2,.slice A2 n2 c2]) z2) (b2:Sz z2 100) (h3:Zn w (.agg #[.bool p3,.slice A3 n3 c3]) z3) (b3:Sz z3 100) :
  Calls Tryz.prog 181 #[.agg #[.bool p0,.slice A0 n0 c0,.bool p1,.slice A1 n1 c1],.agg #[.bool p2,.slice A2 n2 c2],.agg #[.bool p3,.slice A3 n3 c3]] w fun e w'=>∃ p8 A8 n8 c8,e = .returned (.agg #[.bool p8,.slice A8 n8 c8])∧Zn w' (.agg #[.bool p8,.slice A8 n8 c8]) (z0*z2+z1*z3)∧Ext w w':=by
 refine Pl.aZ (n:=16) (vs:=[.agg #[.bool p0,.slice A0 n0 c0,.bool p1,.slice A1 n1 c1],.agg #[.bool p2,.slice A2 n2 c2],.agg #[.bool p3,.slice A3 n3 c3]]) Tryz.func181 rfl (by kernel_rfl) (by simp) ?_
 repeat refine Pl.ay ?_
 refine Pl.ak (by kernel_rfl) ?_
 refine RB (cs:=[.bool p0,.slice A0 n0 c0,.bool p1,.slice A1 n1 c1]) rfl rfl rfl rfl rfl (fun _ _=>trivial) ?_
 intro N1 w1 hB1 hN1 k1
 refine RB (cs:=[.bool p2,.slice A2 n2 c2]) rfl rfl rfl rfl rfl (fun _ _=>trivial) ?_
 intro N2 w2 hB2 hN2 k2
 refine RB (cs:=[.bool p3,.slice A3 n3 c3]) rfl rfl rfl rfl rfl (fun _ _=>trivial) ?_
 intro N3 w3 hB3 hN3 k3
 refine fB rfl rfl rfl rfl (z:=.agg #[.bool false,.slice none 0 0]) (by kernel_rfl) (fun _ _=>trivial) ?_
 intro N4 w4 hB4 hN4 k4
 replace k4:Cb w4 N4 48 [.bool false,.slice none 0 0]:=k4
 refine Pl.aj ?_
 replace k1:=Cb.ext k1 (hB2.below hB3)
 replace k2:=Cb.ext k2 hB3
 have bJ:=hB1.below (hB2.below hB3)
 repeat refine Pl.ay ?_
 refine Pl.iJ (S:=fun X=>Ext w3 X) [(true,0,0),(true,1,1),(true,2,3),(true,4,7),(true,5,23),(true,6,55),(false,3,119),(false,7,127),(false,8,255),(false,9,511)] fo Pl.aB (by kernel_rfl) (hB4.below (Ext.drew (Ext.refl w4))) ?_
 have dJ:=Ext.drew (Ext.refl w4)
 have bE:=hB4.below dJ
 generalize w4.drew=w5 at *
 intro hS5
 have m1:=Sz.mul (M:=110) b0 b2 (by decide)
 have m2:=Sz.mul (M:=110) b1 b3 (by decide)
 refine aS hS5 rfl rfl rfl rfl rfl rfl (dS _) ?_
 refine Pl.aX hS5 rfl rfl rfl rfl rfl (fun X hX=>Cb.bD (Cb.ext k1 hX) 0 [.bool p0,.slice A0 n0 c0] rfl _ _ rfl rfl (by kernel_rfl)) ?_
 refine Pl.aX hS5 rfl rfl rfl rfl rfl (fun X hX=>Cb.bD (Cb.ext k2 hX) 0 [.bool p2,.slice A2 n2 c2] rfl _ _ rfl rfl (by kernel_rfl)) ?_
 refine aS hS5 rfl rfl rfl rfl rfl rfl (dI _) ?_
 refine Pl.aX hS5 rfl rfl rfl rfl rfl (fun X hX=>Cb.bD (Cb.ext k1 hX) 2 [.bool p1,.slice A1 n1 c1] rfl _ _ rfl rfl (by kernel_rfl)) ?_
 refine Pl.aX hS5 rfl rfl rfl rfl rfl (fun X hX=>Cb.bD (Cb.ext k3 hX) 0 [.bool p3,.slice A3 n3 c3] rfl _ _ rfl rfl (by kernel_rfl)) ?_
 refine Pl.az rfl rfl rfl rfl rfl (fun u X=>Pl.enters Tryz.func38 (by kernel_rfl) rfl u X) ?_
 refine Calls.mono (lT _ _ _ z0 z2 (Zn.below h0 (bJ.below bE)) (Zn.below h2 (bJ.below bE)) (Nat.le_trans b0 (by decide)) (Nat.le_trans b2 (by decide)) _ rfl) ?_
 rintro e w6 ⟨v6,rfl,h6,dV⟩
 have gP:=hS5.below dV
 refine ⟨_,rfl,gP,?_⟩
 refine Pl.az rfl rfl rfl rfl rfl (fun u X=>Pl.enters Tryz.func38 (by kernel_rfl) rfl u X) ?_
 refine Calls.mono (lT _ _ _ z1 z3 (Zn.below h1 (bJ.below (bE.below dV))) (Zn.below h3 (bJ.below (bE.below dV))) (Nat.le_trans b1 (by decide)) (Nat.le_trans b3 (by decide)) _ rfl) ?_
 rintro e w7 ⟨v7,rfl,h7,dP⟩
 have iK:=gP.below dP
 refine ⟨_,rfl,iK,?_⟩
 refine Pl.az rfl rfl rfl rfl rfl (fun u X=>Pl.enters Tryz.func37 (by kernel_rfl) rfl u X) ?_
 refine Calls.mono (CB _ _ _ (z0*z2) (z1*z3) (Zn.below h6 dP) h7 (Nat.le_trans m1 (by decide)) (Nat.le_trans m2 (by decide)) _ rfl) ?_
 rintro e w8 ⟨v8,rfl,h8,dU⟩
 have jk:=iK.below dU
 obtain ⟨p8,A8,n8,c8,rfl⟩:=Zn.sh h8
 have k4b:=Cb.ext k4 (dJ.below (dV.below (dP.below dU)))
 refine ⟨_,rfl,jk,?_⟩
 have x9:Xt [N4] w8 (w8.setRow N4 ([.bool p8,.slice A8 n8 c8]:List Value).toArray):=Xt.put k4b (aD aK) (by simp) _
 refine iC (new:=[.bool p8,.slice A8 n8 c8]) k4b rfl rfl rfl rfl rfl rfl (by kernel_rfl) rfl (by simp [Value.oneCell']) (jk.xt x9 (by simpa using hN4)) ?_
 have k4c:=Cb.put k4b [.bool p8,.slice A8 n8 c8]
 generalize w8.setRow N4 ([.bool p8,.slice A8 n8 c8]:List Value).toArray=w9 at *
 refine Pl.aj ?_
 exact kE rfl rfl k4c rfl rfl (by kernel_rfl) ⟨p8,A8,n8,c8,rfl,Zn.kp h8 x9.kp,(bJ.below jk).xt x9 (by simp;exact Nat.le_trans bJ.size hN4)⟩
theorem Mf (w:World) (ps0:Bool) (Uo:Option Addr) (ns0 cs0:Nat) (zs0:Int) (ps1:Bool) (Uq:Option Addr) (Ur cs1:Nat) (zs1:Int) (ps2:Bool) (Us:Option Addr) (Ut cs2:Nat) (zs2:Int) (Uu:Bool) (Uv:Option Addr) (Uw M0:Nat) (zs3:Int) (Ux:Bool) (Uy:Option Addr) (Uz UA:Nat) (zm0:Int) (UB:Bool) (UC:Option Addr) (UD UE:Nat) (zm1:Int) (UF:Bool) (UG:Option Addr) (UH UI:Nat) (zm2:Int) (UJ:Bool) (UK:Option Addr) (UL UM:Nat) (zm3:Int) (hs0:Zn w (.agg #[.bool ps0,.slice Uo ns0 cs0]) zs0) (bs0:Sz zs0 1) (hs1:Zn w (.agg #[.bool ps1,.slice Uq Ur cs1]) zs1) (bs1:Sz zs1 1) (hs2:Zn w (.agg #[.bool ps2,.slice Us Ut cs2]) zs2) (bs2:Sz zs2 1) (hs3:Zn w (.agg #[.bool Uu,.slice Uv Uw M0]) zs3) (bs3:Sz zs3 1) (hm0:Zn w (.agg #[.bool Ux,.slice Uy Uz UA]) zm0) (bm0:Sz zm0 1) (hm1:Zn w (.agg #[.bool UB,.slice UC UD UE]) zm1) (bm1:Sz zm1 1) (hm2:Zn w (.agg #[.bool UF,.slice UG UH UI]) zm2) (bm2:Sz zm2 1) (QB:Zn w (.agg #[.bool UJ,.slice UK UL UM]) zm3) (bm3:Sz zm3 1) :
  Calls Tryz.prog 135 #[.agg #[.bool ps0,.slice Uo ns0 cs0,.bool ps1,.slice Uq Ur cs1,.bool ps2,.slice Us Ut cs2,.bool Uu,.slice Uv Uw M0],.agg #[.bool Ux,.slice Uy Uz UA,.bool UB,.slice UC UD UE,.bool UF,.slice UG UH UI,.bool UJ,.slice UK UL UM]] w fun e w'=>∃ cs,e = .returned (.agg cs.toArray)∧Gd w' 3 cs∧cs.length=8∧Ext w w':=by
 refine Pl.aZ (n:=34) (vs:=[.agg #[.bool ps0,.slice Uo ns0 cs0,.bool ps1,.slice Uq Ur cs1,.bool ps2,.slice Us Ut cs2,.bool Uu,.slice Uv Uw M0],.agg #[.bool Ux,.slice Uy Uz UA,.bool UB,.slice UC UD UE,.bool UF,.slice UG UH UI,.bool UJ,.slice UK UL UM]]) Tryz.func135 rfl (by kernel_rfl) (by simp) ?_
 repeat refine Pl.ay ?_
 refine Pl.ak (by kernel_rfl) ?_
 refine RB (cs:=[.bool ps0,.slice Uo ns0 cs0,.bool ps1,.slice Uq Ur cs1,.bool ps2,.slice Us Ut cs2,.bool Uu,.slice Uv Uw M0]) rfl rfl rfl rfl rfl (fun _ _=>trivial) ?_
 intro N1 w1 hB1 hN1 k1
 refine RB (cs:=[.bool Ux,.slice Uy Uz UA,.bool UB,.slice UC UD UE,.bool UF,.slice UG UH UI,.bool UJ,.slice UK UL UM]) rfl rfl rfl rfl rfl (fun _ _=>trivial) ?_
 intro N2 w2 hB2 hN2 k2
 refine fB rfl rfl rfl rfl (z:=.agg ([.bool false,.slice none 0 0,.bool false,.slice none 0 0,.bool false,.slice none 0 0,.bool false,.slice none 0 0]:List Value).toArray) (by kernel_rfl) (fun _ _=>trivial) ?_
 intro N3 w3 hB3 hN3 k3
 replace k3:Cb w3 N3 110 [.bool false,.slice none 0 0,.bool false,.slice none 0 0,.bool false,.slice none 0 0,.bool false,.slice none 0 0]:=k3
 refine Pl.aj ?_
 repeat refine Pl.ay ?_
 refine Pl.ak (by kernel_rfl) ?_
 refine fB rfl rfl rfl rfl (z:=.agg ([.bool false,.slice none 0 0,.bool false,.slice none 0 0,.bool false,.slice none 0 0,.bool false,.slice none 0 0]:List Value).toArray) (by kernel_rfl) (fun _ _=>trivial) ?_
 intro N4 w4 hB4 hN4 k4
 replace k4:Cb w4 N4 110 [.bool false,.slice none 0 0,.bool false,.slice none 0 0,.bool false,.slice none 0 0,.bool false,.slice none 0 0]:=k4
 refine Pl.aj ?_
 have d13:N1<N2:=Nat.lt_of_lt_of_le k1.lt hN2
 have d23:N2<N3:=Nat.lt_of_lt_of_le k2.lt hN3
 have d34:N3<N4:=Nat.lt_of_lt_of_le k3.lt hN4
 replace k1:=Cb.ext k1 (hB2.below (hB3.below hB4))
 replace k2:=Cb.ext k2 (hB3.below hB4)
 replace k3:=Cb.ext k3 hB4
 have bX:=hB1.below (hB2.below (hB3.below hB4))
 have hw1:w.heap.size≤N1:=hN1
 replace hs0:=Zn.below hs0 bX
 replace hs1:=Zn.below hs1 bX
 replace hs2:=Zn.below hs2 bX
 replace hs3:=Zn.below hs3 bX
 replace hm0:=Zn.below hm0 bX
 replace hm1:=Zn.below hm1 bX
 replace hm2:=Zn.below hm2 bX
 replace QB:=Zn.below QB bX
 repeat refine Pl.ay ?_
 refine Pl.ak (by kernel_rfl) ?_
 refine Pl.aH trivial rfl rfl rfl rfl rfl (Cb.load k1 _ _ rfl rfl (by kernel_rfl)) ?_
 refine Pl.aA trivial rfl rfl rfl rfl rfl ?_
 refine Pl.aj ?_
 repeat refine Pl.ay ?_
 repeat refine Pl.ay ?_
 refine Pl.dM ?_
 refine Pl.sH 2 ?_
 refine Pl.wO ?_
 repeat refine Pl.ay ?_
 refine Pl.ak (by kernel_rfl) ?_
 refine Pl.aN (v:=.bool true) trivial rfl rfl rfl rfl rfl rfl (fun X=>jc (by decide) X) ?_
 refine Pl.aj ?_
 repeat refine Pl.ay ?_
 refine Pl.cK rfl ?_
 repeat refine Pl.ay ?_
 refine Pl.bM ?_
 repeat refine Pl.ay ?_
 refine Pl.dM ?_
 repeat refine Pl.ay ?_
 refine Pl.ak (by kernel_rfl) ?_
 refine Pl.aA trivial rfl rfl rfl rfl rfl ?_
 refine OM (v:=.agg #[.bool ps0,.slice Uo ns0 cs0,.bool ps1,.slice Uq Ur cs1]) trivial rfl rfl rfl rfl rfl rfl (auH _ _ _ _ _ _ _ _) ?_
 refine fB rfl rfl rfl rfl (z:=.agg ([.bool false,.slice none 0 0,.bool false,.slice none 0 0]:List Value).toArray) (by kernel_rfl) (fun _ _=>trivial) ?_
 intro R0 u1 uo hR0 YM
 replace YM:Cb u1 R0 108 [.bool false,.slice none 0 0,.bool false,.slice none 0 0]:=YM
 refine Pl.aF trivial rfl rfl rfl rfl rfl ?_
 refine iC (new:=[.bool ps0,.slice Uo ns0 cs0,.bool ps1,.slice Uq Ur cs1]) YM rfl rfl rfl rfl rfl rfl (by kernel_rfl) rfl (by simp [Value.oneCell']) trivial ?_
 have aoI:=Cb.put YM [.bool ps0,.slice Uo ns0 cs0,.bool ps1,.slice Uq Ur cs1]
 have xr0:Xt [R0] u1 (u1.setRow R0 ([.bool ps0,.slice Uo ns0 cs0,.bool ps1,.slice Uq Ur cs1]:List Value).toArray):=Xt.put YM (aD (aD aK)) (by simp) _
 have WG:Xt [R0] w4 (u1.setRow R0 ([.bool ps0,.slice Uo ns0 cs0,.bool ps1,.slice Uq Ur cs1]:List Value).toArray):=(Xt.ext uo).trans xr0
 generalize u1.setRow R0 ([.bool ps0,.slice Uo ns0 cs0,.bool ps1,.slice Uq Ur cs1]:List Value).toArray=u2 at *
 refine Pl.aj ?_
 have dr0:N4<R0:=Nat.lt_of_lt_of_le (k4).lt hR0
 have aoJ:=WG.cb k1 (by simp;omega)
 have agd:=WG.cb k2 (by simp;omega)
 have aoK:=WG.cb k3 (by simp;omega)
 have aoL:=WG.cb k4 (by simp;omega)
 have auK:=(bX).xt WG (by simp;have:=hB1.size;omega)
 have abj:=Zn.kp hs0 WG.kp
 have abk:=Zn.kp hs1 WG.kp
 have aju:=Zn.kp hs2 WG.kp
 have ajv:=Zn.kp hs3 WG.kp
 have abl:=Zn.kp hm0 WG.kp
 have ajw:=Zn.kp hm1 WG.kp
 have abm:=Zn.kp hm2 WG.kp
 have ajx:=Zn.kp QB WG.kp
 repeat refine Pl.ay ?_
 refine Pl.ak (by kernel_rfl) ?_
 refine Pl.aA trivial rfl rfl rfl rfl rfl ?_
 refine Pl.aj ?_
 repeat refine Pl.ay ?_
 repeat refine Pl.ay ?_
 refine Pl.dM ?_
 refine Pl.sH 2 ?_
 refine Pl.wO ?_
 repeat refine Pl.ay ?_
 refine Pl.ak (by kernel_rfl) ?_
 refine Pl.aN (v:=.bool true) trivial rfl rfl rfl rfl rfl rfl (fun X=>jc (by decide) X) ?_
 refine Pl.aj ?_
 repeat refine Pl.ay ?_
 refine Pl.cK rfl ?_
 repeat refine Pl.ay ?_
 refine Pl.bM ?_
 repeat refine Pl.ay ?_
 refine Pl.dM ?_
 repeat refine Pl.ay ?_
 refine Pl.ak (by kernel_rfl) ?_
 refine Pl.aA trivial rfl rfl rfl rfl rfl ?_
 refine Pl.aF trivial rfl rfl rfl rfl rfl ?_
 refine Pl.aj ?_
 repeat refine Pl.ay ?_
 refine Pl.iJ (S:=fun X=>Cb X R0 108 [.bool ps0,.slice Uo ns0 cs0,.bool ps1,.slice Uq Ur cs1]∧Cb X N2 110 [.bool Ux,.slice Uy Uz UA,.bool UB,.slice UC UD UE,.bool UF,.slice UG UH UI,.bool UJ,.slice UK UL UM]) [(true,0,0),(true,1,1),(true,2,3),(true,3,7),(true,4,15),(true,5,31),(true,6,63),(true,7,127),(true,8,255),(true,9,511),(true,10,1023),(true,12,2047),(false,11,6143),(true,13,8191),(false,14,16383)] fo (by repeat first | exact Pl.aB | refine Pl.lS ?_ | refine Pl.oh ?_ | refine Pl.yj ?_) (by kernel_rfl) ⟨Cb.ext aoI (Ext.drew (Ext.refl _)),Cb.ext agd (Ext.drew (Ext.refl _))⟩ ?_
 have abn:=Ext.drew (Ext.refl u2)
 generalize u2.drew=u3 at *
 intro xX
 refine Pl.aA xX rfl rfl rfl rfl rfl ?_
 refine Pl.aA xX rfl rfl rfl rfl rfl ?_
 refine Pl.aX xX rfl rfl rfl rfl rfl (fun X hX=>Cb.load hX.1 _ _ rfl rfl (by kernel_rfl)) ?_
 refine Pl.aA xX rfl rfl rfl rfl rfl ?_
 refine aS xX rfl rfl rfl rfl rfl rfl (uI _) ?_
 refine aS xX rfl rfl rfl rfl rfl rfl (dS _) ?_
 refine Pl.aX xX rfl rfl rfl rfl rfl (fun X hX=>Cb.bD hX.2 0 [.bool Ux,.slice Uy Uz UA] rfl _ _ rfl rfl (by kernel_rfl)) ?_
 refine Pl.aA xX rfl rfl rfl rfl rfl ?_
 refine aS xX rfl rfl rfl rfl rfl rfl (uJ _) ?_
 refine aS xX rfl rfl rfl rfl rfl rfl (Md _) ?_
 refine Pl.aX xX rfl rfl rfl rfl rfl (fun X hX=>Cb.bD hX.2 4 [.bool UF,.slice UG UH UI] rfl _ _ rfl rfl (by kernel_rfl)) ?_
 refine aS xX rfl rfl rfl rfl rfl rfl (uI _) ?_
 refine Pl.az rfl rfl rfl rfl rfl (fun u X=>Pl.enters Tryz.func181 (by kernel_rfl) rfl u X) ?_
 refine Calls.mono (nW _ _ _ _ _ zs0 _ _ _ _ zs1 _ _ _ _ zm0 _ _ _ _ zm2 (Zn.below abj abn) (bs0.le (by decide)) (Zn.below abk abn) (bs1.le (by decide)) (Zn.below abl abn) (bm0.le (by decide)) (Zn.below abm abn) (bm2.le (by decide))) ?_
 rintro e u4 ⟨BI,BJ,BK,BL,rfl,auL,abo⟩
 have ajy:Cb u4 R0 108 [.bool ps0,.slice Uo ns0 cs0,.bool ps1,.slice Uq Ur cs1]∧Cb u4 N2 110 [.bool Ux,.slice Uy Uz UA,.bool UB,.slice UC UD UE,.bool UF,.slice UG UH UI,.bool UJ,.slice UK UL UM]:=⟨Cb.ext xX.1 abo,Cb.ext xX.2 abo⟩
 have aoM:=abn.below abo
 have abp:=Cb.ext aoL aoM
 refine ⟨_,rfl,⟨Cb.ext xX.1 abo,Cb.ext xX.2 abo⟩,?_⟩
 refine aS ajy rfl rfl rfl rfl rfl rfl (dS _) ?_
 have x00:Xt [N4] u4 (u4.setCells N4 0 [.bool BI,.slice BJ BK BL]):=Xt.rW _ _ abp (aD (aD (aD (aD aK)))) (aD aK)
 refine Pl.aW rfl rfl rfl rfl rfl rfl (Cb.zw abp 0 [.bool BI,.slice BJ BK BL] (by simp) _ (by kernel_rfl) (by simp [Value.oneCell'])) ⟨x00.cb ajy.1 (by simp;omega),x00.cb ajy.2 (by simp;omega)⟩ ?_
 have aoN:Cb (u4.setCells N4 0 [.bool BI,.slice BJ BK BL]) N4 110 [.bool BI,.slice BJ BK BL,.bool false,.slice none 0 0,.bool false,.slice none 0 0,.bool false,.slice none 0 0]:=Cb.rW [.bool BI,.slice BJ BK BL] 0 abp
 generalize u4.setCells N4 0 [.bool BI,.slice BJ BK BL]=u5 at *
 refine Pl.aj ?_
 have Dm:Xt [N4] u2 u5:=(Xt.ext aoM).trans x00
 have aoO:=Dm.cb aoJ (by simp;omega)
 have age:=Dm.cb agd (by simp;omega)
 have aoP:=Dm.cb aoK (by simp;omega)
 have agf:=Dm.cb aoI (by simp;omega)
 have auM:=(auK).xt Dm (by simp;have:=hB1.size;omega)
 have abq:=Zn.kp abj Dm.kp
 have abr:=Zn.kp abk Dm.kp
 have ajz:=Zn.kp aju Dm.kp
 have ajA:=Zn.kp ajv Dm.kp
 have ajB:=Zn.kp abl Dm.kp
 have abt:=Zn.kp ajw Dm.kp
 have ajC:=Zn.kp abm Dm.kp
 have abu:=Zn.kp ajx Dm.kp
 have ajD:=Zn.kp auL x00.kp
 refine Pl.dG ?_
 repeat refine Pl.ay ?_
 refine Pl.ak (by kernel_rfl) ?_
 refine Pl.aN (v:=.int .i64 1) trivial rfl rfl rfl rfl rfl rfl (fun X=>nM (by decide) (by decide) (by decide) X) ?_
 refine Pl.aA trivial rfl rfl rfl rfl rfl ?_
 refine Pl.aj ?_
 refine Pl.wP ?_
 refine Pl.wO ?_
 repeat refine Pl.ay ?_
 refine Pl.ak (by kernel_rfl) ?_
 refine Pl.aN (v:=.bool true) trivial rfl rfl rfl rfl rfl rfl (fun X=>jc (by decide) X) ?_
 refine Pl.aj ?_
 repeat refine Pl.ay ?_
 refine Pl.cK rfl ?_
 repeat refine Pl.ay ?_
 refine Pl.bM ?_
 repeat refine Pl.ay ?_
 refine Pl.dM ?_
 repeat refine Pl.ay ?_
 refine Pl.ak (by kernel_rfl) ?_
 refine Pl.aA trivial rfl rfl rfl rfl rfl ?_
 refine Pl.aF trivial rfl rfl rfl rfl rfl ?_
 refine Pl.aj ?_
 repeat refine Pl.ay ?_
 refine Pl.iJ (S:=fun X=>Cb X R0 108 [.bool ps0,.slice Uo ns0 cs0,.bool ps1,.slice Uq Ur cs1]∧Cb X N2 110 [.bool Ux,.slice Uy Uz UA,.bool UB,.slice UC UD UE,.bool UF,.slice UG UH UI,.bool UJ,.slice UK UL UM]) [(true,0,0),(true,1,1),(true,2,3),(true,3,7),(true,4,15),(true,5,31),(true,6,63),(true,7,127),(true,8,255),(true,9,511),(true,10,1023),(true,12,2047),(false,11,6143),(true,13,8191),(false,14,16383)] fo (by repeat first | exact Pl.aB | refine Pl.lS ?_ | refine Pl.oh ?_ | refine Pl.yj ?_) (by kernel_rfl) ⟨Cb.ext agf (Ext.drew (Ext.refl _)),Cb.ext age (Ext.drew (Ext.refl _))⟩ ?_
 have abv:=Ext.drew (Ext.refl u5)
 generalize u5.drew=u6 at *
 intro xY
 refine Pl.aA xY rfl rfl rfl rfl rfl ?_
 refine Pl.aA xY rfl rfl rfl rfl rfl ?_
 refine Pl.aX xY rfl rfl rfl rfl rfl (fun X hX=>Cb.load hX.1 _ _ rfl rfl (by kernel_rfl)) ?_
 refine Pl.aA xY rfl rfl rfl rfl rfl ?_
 refine aS xY rfl rfl rfl rfl rfl rfl (uI _) ?_
 refine aS xY rfl rfl rfl rfl rfl rfl (dI _) ?_
 refine Pl.aX xY rfl rfl rfl rfl rfl (fun X hX=>Cb.bD hX.2 2 [.bool UB,.slice UC UD UE] rfl _ _ rfl rfl (by kernel_rfl)) ?_
 refine Pl.aA xY rfl rfl rfl rfl rfl ?_
 refine aS xY rfl rfl rfl rfl rfl rfl (uJ _) ?_
 refine aS xY rfl rfl rfl rfl rfl rfl (Me _) ?_
 refine Pl.aX xY rfl rfl rfl rfl rfl (fun X hX=>Cb.bD hX.2 6 [.bool UJ,.slice UK UL UM] rfl _ _ rfl rfl (by kernel_rfl)) ?_
 refine aS xY rfl rfl rfl rfl rfl rfl (uI _) ?_
 refine Pl.az rfl rfl rfl rfl rfl (fun u X=>Pl.enters Tryz.func181 (by kernel_rfl) rfl u X) ?_
 refine Calls.mono (nW _ _ _ _ _ zs0 _ _ _ _ zs1 _ _ _ _ zm1 _ _ _ _ zm3 (Zn.below abq abv) (bs0.le (by decide)) (Zn.below abr abv) (bs1.le (by decide)) (Zn.below abt abv) (bm1.le (by decide)) (Zn.below abu abv) (bm3.le (by decide))) ?_
 rintro e u7 ⟨Dn,Dp,Dq,Dr,rfl,auN,abw⟩
 have ajE:Cb u7 R0 108 [.bool ps0,.slice Uo ns0 cs0,.bool ps1,.slice Uq Ur cs1]∧Cb u7 N2 110 [.bool Ux,.slice Uy Uz UA,.bool UB,.slice UC UD UE,.bool UF,.slice UG UH UI,.bool UJ,.slice UK UL UM]:=⟨Cb.ext xY.1 abw,Cb.ext xY.2 abw⟩
 have aoQ:=abv.below abw
 have abx:=Cb.ext aoN aoQ
 refine ⟨_,rfl,⟨Cb.ext xY.1 abw,Cb.ext xY.2 abw⟩,?_⟩
 refine aS ajE rfl rfl rfl rfl rfl rfl (dI _) ?_
 have x01:Xt [N4] u7 (u7.setCells N4 2 [.bool Dn,.slice Dp Dq Dr]):=Xt.rW _ _ abx (aD (aD (aD (aD aK)))) (aD aK)
 refine Pl.aW rfl rfl rfl rfl rfl rfl (Cb.zw abx 2 [.bool Dn,.slice Dp Dq Dr] (by simp) _ (by kernel_rfl) (by simp [Value.oneCell'])) ⟨x01.cb ajE.1 (by simp;omega),x01.cb ajE.2 (by simp;omega)⟩ ?_
 have agh:Cb (u7.setCells N4 2 [.bool Dn,.slice Dp Dq Dr]) N4 110 [.bool BI,.slice BJ BK BL,.bool Dn,.slice Dp Dq Dr,.bool false,.slice none 0 0,.bool false,.slice none 0 0]:=Cb.rW [.bool Dn,.slice Dp Dq Dr] 2 abx
 generalize u7.setCells N4 2 [.bool Dn,.slice Dp Dq Dr]=u8 at *
 refine Pl.aj ?_
 have BM:Xt [N4] u5 u8:=(Xt.ext aoQ).trans x01
 have aoR:=BM.cb aoO (by simp;omega)
 have aoS:=BM.cb age (by simp;omega)
 have aoT:=BM.cb aoP (by simp;omega)
 have axx:=BM.cb agf (by simp;omega)
 have auO:=(auM).xt BM (by simp;have:=hB1.size;omega)
 have ajF:=Zn.kp abq BM.kp
 have ajG:=Zn.kp abr BM.kp
 have ajH:=Zn.kp ajz BM.kp
 have ajI:=Zn.kp ajA BM.kp
 have ajJ:=Zn.kp ajB BM.kp
 have ajK:=Zn.kp abt BM.kp
 have ajL:=Zn.kp ajC BM.kp
 have ajM:=Zn.kp abu BM.kp
 have ajN:=Zn.kp ajD BM.kp
 have ajO:=Zn.kp auN x01.kp
 refine Pl.dG ?_
 repeat refine Pl.ay ?_
 refine Pl.ak (by kernel_rfl) ?_
 refine Pl.aN (v:=.int .i64 2) trivial rfl rfl rfl rfl rfl rfl (fun X=>nM (by decide) (by decide) (by decide) X) ?_
 refine Pl.aA trivial rfl rfl rfl rfl rfl ?_
 refine Pl.aj ?_
 refine Pl.wP ?_
 refine Pl.sI ?_
 repeat refine Pl.ay ?_
 refine Pl.ak (by kernel_rfl) ?_
 refine Pl.aN (v:=.bool false) trivial rfl rfl rfl rfl rfl rfl (fun X=>jc (by decide) X) ?_
 refine Pl.aj ?_
 repeat refine Pl.ay ?_
 refine Pl.bn rfl ?_
 repeat refine Pl.ay ?_
 refine Pl.lD ?_
 refine Pl.dG ?_
 repeat refine Pl.ay ?_
 refine Pl.ak (by kernel_rfl) ?_
 refine Pl.aN (v:=.int .i64 1) trivial rfl rfl rfl rfl rfl rfl (fun X=>nM (by decide) (by decide) (by decide) X) ?_
 refine Pl.aA trivial rfl rfl rfl rfl rfl ?_
 refine Pl.aj ?_
 refine Pl.wP ?_
 refine Pl.wO ?_
 repeat refine Pl.ay ?_
 refine Pl.ak (by kernel_rfl) ?_
 refine Pl.aN (v:=.bool true) trivial rfl rfl rfl rfl rfl rfl (fun X=>jc (by decide) X) ?_
 refine Pl.aj ?_
 repeat refine Pl.ay ?_
 refine Pl.cK rfl ?_
 repeat refine Pl.ay ?_
 refine Pl.bM ?_
 repeat refine Pl.ay ?_
 refine Pl.dM ?_
 repeat refine Pl.ay ?_
 refine Pl.ak (by kernel_rfl) ?_
 refine Pl.aA trivial rfl rfl rfl rfl rfl ?_
 refine OM (v:=.agg #[.bool ps2,.slice Us Ut cs2,.bool Uu,.slice Uv Uw M0]) trivial rfl rfl rfl rfl rfl rfl (auI _ _ _ _ _ _ _ _) ?_
 refine fB rfl rfl rfl rfl (z:=.agg ([.bool false,.slice none 0 0,.bool false,.slice none 0 0]:List Value).toArray) (by kernel_rfl) (fun _ _=>trivial) ?_
 intro R1 u9 hA1 hR1 Tn
 replace Tn:Cb u9 R1 108 [.bool false,.slice none 0 0,.bool false,.slice none 0 0]:=Tn
 refine Pl.aF trivial rfl rfl rfl rfl rfl ?_
 refine iC (new:=[.bool ps2,.slice Us Ut cs2,.bool Uu,.slice Uv Uw M0]) Tn rfl rfl rfl rfl rfl rfl (by kernel_rfl) rfl (by simp [Value.oneCell']) trivial ?_
 have aoU:=Cb.put Tn [.bool ps2,.slice Us Ut cs2,.bool Uu,.slice Uv Uw M0]
 have xr1:Xt [R1] u9 (u9.setRow R1 ([.bool ps2,.slice Us Ut cs2,.bool Uu,.slice Uv Uw M0]:List Value).toArray):=Xt.put Tn (aD (aD aK)) (by simp) _
 have RD:Xt [R1] u8 (u9.setRow R1 ([.bool ps2,.slice Us Ut cs2,.bool Uu,.slice Uv Uw M0]:List Value).toArray):=(Xt.ext hA1).trans xr1
 generalize u9.setRow R1 ([.bool ps2,.slice Us Ut cs2,.bool Uu,.slice Uv Uw M0]:List Value).toArray=u10 at *
 refine Pl.aj ?_
 have dr1:N4<R1:=Nat.lt_of_lt_of_le (agh).lt hR1
 have ajP:=RD.cb aoR (by simp;omega)
 have aby:=RD.cb aoS (by simp;omega)
 have ajQ:=RD.cb aoT (by simp;omega)
 have ajR:=RD.cb agh (by simp;omega)
 have aoV:=(auO).xt RD (by simp;have:=hB1.size;omega)
 have aey:=Zn.kp ajF RD.kp
 have aez:=Zn.kp ajG RD.kp
 have UN:=Zn.kp ajH RD.kp
 have UO:=Zn.kp ajI RD.kp
 have UQ:=Zn.kp ajJ RD.kp
 have aeA:=Zn.kp ajK RD.kp
 have UR:=Zn.kp ajL RD.kp
 have aeB:=Zn.kp ajM RD.kp
 have aeC:=Zn.kp ajN RD.kp
 have aeD:=Zn.kp ajO RD.kp
 repeat refine Pl.ay ?_
 refine Pl.ak (by kernel_rfl) ?_
 refine Pl.aA trivial rfl rfl rfl rfl rfl ?_
 refine Pl.aj ?_
 repeat refine Pl.ay ?_
 repeat refine Pl.ay ?_
 refine Pl.dM ?_
 refine Pl.sH 2 ?_
 refine Pl.wO ?_
 repeat refine Pl.ay ?_
 refine Pl.ak (by kernel_rfl) ?_
 refine Pl.aN (v:=.bool true) trivial rfl rfl rfl rfl rfl rfl (fun X=>jc (by decide) X) ?_
 refine Pl.aj ?_
 repeat refine Pl.ay ?_
 refine Pl.cK rfl ?_
 repeat refine Pl.ay ?_
 refine Pl.bM ?_
 repeat refine Pl.ay ?_
 refine Pl.dM ?_
 repeat refine Pl.ay ?_
 refine Pl.ak (by kernel_rfl) ?_
 refine Pl.aA trivial rfl rfl rfl rfl rfl ?_
 refine Pl.aF trivial rfl rfl rfl rfl rfl ?_
 refine Pl.aj ?_
 repeat refine Pl.ay ?_
 refine Pl.iJ (S:=fun X=>Cb X R1 108 [.bool ps2,.slice Us Ut cs2,.bool Uu,.slice Uv Uw M0]∧Cb X N2 110 [.bool Ux,.slice Uy Uz UA,.bool UB,.slice UC UD UE,.bool UF,.slice UG UH UI,.bool UJ,.slice UK UL UM]) [(true,0,0),(true,1,1),(true,2,3),(true,3,7),(true,4,15),(true,5,31),(true,6,63),(true,7,127),(true,8,255),(true,9,511),(true,10,1023),(true,12,2047),(false,11,6143),(true,13,8191),(false,14,16383)] fo (by repeat first | exact Pl.aB | refine Pl.lS ?_ | refine Pl.oh ?_ | refine Pl.yj ?_) (by kernel_rfl) ⟨Cb.ext aoU (Ext.drew (Ext.refl _)),Cb.ext aby (Ext.drew (Ext.refl _))⟩ ?_
 have abz:=Ext.drew (Ext.refl u10)
 generalize u10.drew=u11 at *
 intro fQ
 refine Pl.aA fQ rfl rfl rfl rfl rfl ?_
 refine Pl.aA fQ rfl rfl rfl rfl rfl ?_
 refine Pl.aX fQ rfl rfl rfl rfl rfl (fun X hX=>Cb.load hX.1 _ _ rfl rfl (by kernel_rfl)) ?_
 refine Pl.aA fQ rfl rfl rfl rfl rfl ?_
 refine aS fQ rfl rfl rfl rfl rfl rfl (uI _) ?_
 refine aS fQ rfl rfl rfl rfl rfl rfl (dS _) ?_
 refine Pl.aX fQ rfl rfl rfl rfl rfl (fun X hX=>Cb.bD hX.2 0 [.bool Ux,.slice Uy Uz UA] rfl _ _ rfl rfl (by kernel_rfl)) ?_
 refine Pl.aA fQ rfl rfl rfl rfl rfl ?_
 refine aS fQ rfl rfl rfl rfl rfl rfl (uJ _) ?_
 refine aS fQ rfl rfl rfl rfl rfl rfl (Md _) ?_
 refine Pl.aX fQ rfl rfl rfl rfl rfl (fun X hX=>Cb.bD hX.2 4 [.bool UF,.slice UG UH UI] rfl _ _ rfl rfl (by kernel_rfl)) ?_
 refine aS fQ rfl rfl rfl rfl rfl rfl (uJ _) ?_
 refine Pl.az rfl rfl rfl rfl rfl (fun u X=>Pl.enters Tryz.func181 (by kernel_rfl) rfl u X) ?_
 refine Calls.mono (nW _ _ _ _ _ zs2 _ _ _ _ zs3 _ _ _ _ zm0 _ _ _ _ zm2 (Zn.below UN abz) (bs2.le (by decide)) (Zn.below UO abz) (bs3.le (by decide)) (Zn.below UQ abz) (bm0.le (by decide)) (Zn.below UR abz) (bm2.le (by decide))) ?_
 rintro e MB ⟨Ez,EA,EB,EC,rfl,aeE,abA⟩
 have ajS:Cb MB R1 108 [.bool ps2,.slice Us Ut cs2,.bool Uu,.slice Uv Uw M0]∧Cb MB N2 110 [.bool Ux,.slice Uy Uz UA,.bool UB,.slice UC UD UE,.bool UF,.slice UG UH UI,.bool UJ,.slice UK UL UM]:=⟨Cb.ext fQ.1 abA,Cb.ext fQ.2 abA⟩
 have aoW:=abz.below abA
 have abB:=Cb.ext ajR aoW
 refine ⟨_,rfl,⟨Cb.ext fQ.1 abA,Cb.ext fQ.2 abA⟩,?_⟩
 refine aS ajS rfl rfl rfl rfl rfl rfl (Md _) ?_
 have vD:Xt [N4] MB (MB.setCells N4 4 [.bool Ez,.slice EA EB EC]):=Xt.rW _ _ abB (aD (aD (aD (aD aK)))) (aD aK)
 refine Pl.aW rfl rfl rfl rfl rfl rfl (Cb.zw abB 4 [.bool Ez,.slice EA EB EC] (by simp) _ (by kernel_rfl) (by simp [Value.oneCell'])) ⟨vD.cb ajS.1 (by simp;omega),vD.cb ajS.2 (by simp;omega)⟩ ?_
 have aoX:Cb (MB.setCells N4 4 [.bool Ez,.slice EA EB EC]) N4 110 [.bool BI,.slice BJ BK BL,.bool Dn,.slice Dp Dq Dr,.bool Ez,.slice EA EB EC,.bool false,.slice none 0 0]:=Cb.rW [.bool Ez,.slice EA EB EC] 4 abB
 generalize MB.setCells N4 4 [.bool Ez,.slice EA EB EC]=u13 at *
 refine Pl.aj ?_
 have zx:Xt [N4] u10 u13:=(Xt.ext aoW).trans vD
 have ajT:=zx.cb ajP (by simp;omega)
 have abC:=zx.cb aby (by simp;omega)
 have ajU:=zx.cb ajQ (by simp;omega)
 have abD:=zx.cb aoU (by simp;omega)
 have aoY:=(aoV).xt zx (by simp;have:=hB1.size;omega)
 have aeF:=Zn.kp aey zx.kp
 have aeG:=Zn.kp aez zx.kp
 have UT:=Zn.kp UN zx.kp
 have UU:=Zn.kp UO zx.kp
 have aeH:=Zn.kp UQ zx.kp
 have UW:=Zn.kp aeA zx.kp
 have aeI:=Zn.kp UR zx.kp
 have UX:=Zn.kp aeB zx.kp
 have aeJ:=Zn.kp aeC zx.kp
 have aeK:=Zn.kp aeD zx.kp
 have aeL:=Zn.kp aeE vD.kp
 refine Pl.dG ?_
 repeat refine Pl.ay ?_
 refine Pl.ak (by kernel_rfl) ?_
 refine Pl.aN (v:=.int .i64 1) trivial rfl rfl rfl rfl rfl rfl (fun X=>nM (by decide) (by decide) (by decide) X) ?_
 refine Pl.aA trivial rfl rfl rfl rfl rfl ?_
 refine Pl.aj ?_
 refine Pl.wP ?_
 refine Pl.wO ?_
 repeat refine Pl.ay ?_
 refine Pl.ak (by kernel_rfl) ?_
 refine Pl.aN (v:=.bool true) trivial rfl rfl rfl rfl rfl rfl (fun X=>jc (by decide) X) ?_
 refine Pl.aj ?_
 repeat refine Pl.ay ?_
 refine Pl.cK rfl ?_
 repeat refine Pl.ay ?_
 refine Pl.bM ?_
 repeat refine Pl.ay ?_
 refine Pl.dM ?_
 repeat refine Pl.ay ?_
 refine Pl.ak (by kernel_rfl) ?_
 refine Pl.aA trivial rfl rfl rfl rfl rfl ?_
 refine Pl.aF trivial rfl rfl rfl rfl rfl ?_
 refine Pl.aj ?_
 repeat refine Pl.ay ?_
 refine Pl.iJ (S:=fun X=>Cb X R1 108 [.bool ps2,.slice Us Ut cs2,.bool Uu,.slice Uv Uw M0]∧Cb X N2 110 [.bool Ux,.slice Uy Uz UA,.bool UB,.slice UC UD UE,.bool UF,.slice UG UH UI,.bool UJ,.slice UK UL UM]) [(true,0,0),(true,1,1),(true,2,3),(true,3,7),(true,4,15),(true,5,31),(true,6,63),(true,7,127),(true,8,255),(true,9,511),(true,10,1023),(true,12,2047),(false,11,6143),(true,13,8191),(false,14,16383)] fo (by repeat first | exact Pl.aB | refine Pl.lS ?_ | refine Pl.oh ?_ | refine Pl.yj ?_) (by kernel_rfl) ⟨Cb.ext abD (Ext.drew (Ext.refl _)),Cb.ext abC (Ext.drew (Ext.refl _))⟩ ?_
 have abE:=Ext.drew (Ext.refl u13)
 generalize u13.drew=u14 at *
 intro jD
 refine Pl.aA jD rfl rfl rfl rfl rfl ?_
 refine Pl.aA jD rfl rfl rfl rfl rfl ?_
 refine Pl.aX jD rfl rfl rfl rfl rfl (fun X hX=>Cb.load hX.1 _ _ rfl rfl (by kernel_rfl)) ?_
 refine Pl.aA jD rfl rfl rfl rfl rfl ?_
 refine aS jD rfl rfl rfl rfl rfl rfl (uI _) ?_
 refine aS jD rfl rfl rfl rfl rfl rfl (dI _) ?_
 refine Pl.aX jD rfl rfl rfl rfl rfl (fun X hX=>Cb.bD hX.2 2 [.bool UB,.slice UC UD UE] rfl _ _ rfl rfl (by kernel_rfl)) ?_
 refine Pl.aA jD rfl rfl rfl rfl rfl ?_
 refine aS jD rfl rfl rfl rfl rfl rfl (uJ _) ?_
 refine aS jD rfl rfl rfl rfl rfl rfl (Me _) ?_
 refine Pl.aX jD rfl rfl rfl rfl rfl (fun X hX=>Cb.bD hX.2 6 [.bool UJ,.slice UK UL UM] rfl _ _ rfl rfl (by kernel_rfl)) ?_
 refine aS jD rfl rfl rfl rfl rfl rfl (uJ _) ?_
 refine Pl.az rfl rfl rfl rfl rfl (fun u X=>Pl.enters Tryz.func181 (by kernel_rfl) rfl u X) ?_
 refine Calls.mono (nW _ _ _ _ _ zs2 _ _ _ _ zs3 _ _ _ _ zm1 _ _ _ _ zm3 (Zn.below UT abE) (bs2.le (by decide)) (Zn.below UU abE) (bs3.le (by decide)) (Zn.below UW abE) (bm1.le (by decide)) (Zn.below UX abE) (bm3.le (by decide))) ?_
 rintro e Pm ⟨Ik,Il,Im,Io,rfl,aeM,abF⟩
 have ajV:Cb Pm R1 108 [.bool ps2,.slice Us Ut cs2,.bool Uu,.slice Uv Uw M0]∧Cb Pm N2 110 [.bool Ux,.slice Uy Uz UA,.bool UB,.slice UC UD UE,.bool UF,.slice UG UH UI,.bool UJ,.slice UK UL UM]:=⟨Cb.ext jD.1 abF,Cb.ext jD.2 abF⟩
 have aoZ:=abE.below abF
 have abG:=Cb.ext aoX aoZ
 refine ⟨_,rfl,⟨Cb.ext jD.1 abF,Cb.ext jD.2 abF⟩,?_⟩
 refine aS ajV rfl rfl rfl rfl rfl rfl (Me _) ?_
 have Ua:Xt [N4] Pm (Pm.setCells N4 6 [.bool Ik,.slice Il Im Io]):=Xt.rW _ _ abG (aD (aD (aD (aD aK)))) (aD aK)
 refine Pl.aW rfl rfl rfl rfl rfl rfl (Cb.zw abG 6 [.bool Ik,.slice Il Im Io] (by simp) _ (by kernel_rfl) (by simp [Value.oneCell'])) ⟨Ua.cb ajV.1 (by simp;omega),Ua.cb ajV.2 (by simp;omega)⟩ ?_
 have ao0:Cb (Pm.setCells N4 6 [.bool Ik,.slice Il Im Io]) N4 110 [.bool BI,.slice BJ BK BL,.bool Dn,.slice Dp Dq Dr,.bool Ez,.slice EA EB EC,.bool Ik,.slice Il Im Io]:=Cb.rW [.bool Ik,.slice Il Im Io] 6 abG
 generalize Pm.setCells N4 6 [.bool Ik,.slice Il Im Io]=u16 at *
 refine Pl.aj ?_
 have xZ:Xt [N4] u13 u16:=(Xt.ext aoZ).trans Ua
 have auP:=xZ.cb ajT (by simp;omega)
 have auQ:=xZ.cb abC (by simp;omega)
 have RF:=xZ.cb ajU (by simp;omega)
 have auR:=xZ.cb abD (by simp;omega)
 have ao1:=(aoY).xt xZ (by simp;have:=hB1.size;omega)
 have aqI:=Zn.kp aeF xZ.kp
 have aqJ:=Zn.kp aeG xZ.kp
 have aqK:=Zn.kp UT xZ.kp
 have aqL:=Zn.kp UU xZ.kp
 have aqM:=Zn.kp aeH xZ.kp
 have aqN:=Zn.kp UW xZ.kp
 have aqO:=Zn.kp aeI xZ.kp
 have aqP:=Zn.kp UX xZ.kp
 have aeN:=Zn.kp aeJ xZ.kp
 have aeO:=Zn.kp aeK xZ.kp
 have aeP:=Zn.kp aeL xZ.kp
 have aeQ:=Zn.kp aeM Ua.kp
 refine Pl.dG ?_
 repeat refine Pl.ay ?_
 refine Pl.ak (by kernel_rfl) ?_
 refine Pl.aN (v:=.int .i64 2) trivial rfl rfl rfl rfl rfl rfl (fun X=>nM (by decide) (by decide) (by decide) X) ?_
 refine Pl.aA trivial rfl rfl rfl rfl rfl ?_
 refine Pl.aj ?_
 refine Pl.wP ?_
 refine Pl.sI ?_
 repeat refine Pl.ay ?_
 refine Pl.ak (by kernel_rfl) ?_
 refine Pl.aN (v:=.bool false) trivial rfl rfl rfl rfl rfl rfl (fun X=>jc (by decide) X) ?_
 refine Pl.aj ?_
 repeat refine Pl.ay ?_
 refine Pl.bn rfl ?_
 repeat refine Pl.ay ?_
 refine Pl.lD ?_
 refine Pl.dG ?_
 repeat refine Pl.ay ?_
 refine Pl.ak (by kernel_rfl) ?_
 refine Pl.aN (v:=.int .i64 2) trivial rfl rfl rfl rfl rfl rfl (fun X=>nM (by decide) (by decide) (by decide) X) ?_
 refine Pl.aA trivial rfl rfl rfl rfl rfl ?_
 refine Pl.aj ?_
 refine Pl.wP ?_
 refine Pl.sI ?_
 repeat refine Pl.ay ?_
 refine Pl.ak (by kernel_rfl) ?_
 refine Pl.aN (v:=.bool false) trivial rfl rfl rfl rfl rfl rfl (fun X=>jc (by decide) X) ?_
 refine Pl.aj ?_
 repeat refine Pl.ay ?_
 refine Pl.bn rfl ?_
 repeat refine Pl.ay ?_
 refine Pl.lD ?_
 repeat refine Pl.ay ?_
 refine Pl.ak (by kernel_rfl) ?_
 refine Pl.aH trivial rfl rfl rfl rfl rfl (Cb.load ao0 _ _ rfl rfl (by kernel_rfl)) ?_
 have xf:Xt [N3] u16 (u16.setRow N3 ([.bool BI,.slice BJ BK BL,.bool Dn,.slice Dp Dq Dr,.bool Ez,.slice EA EB EC,.bool Ik,.slice Il Im Io]:List Value).toArray):=Xt.put RF (aD (aD (aD (aD aK)))) (by simp) _
 refine iC (new:=[.bool BI,.slice BJ BK BL,.bool Dn,.slice Dp Dq Dr,.bool Ez,.slice EA EB EC,.bool Ik,.slice Il Im Io]) RF rfl rfl rfl rfl rfl rfl (by kernel_rfl) rfl (by simp [Value.oneCell']) trivial ?_
 have kf:=Cb.put RF [.bool BI,.slice BJ BK BL,.bool Dn,.slice Dp Dq Dr,.bool Ez,.slice EA EB EC,.bool Ik,.slice Il Im Io]
 generalize u16.setRow N3 ([.bool BI,.slice BJ BK BL,.bool Dn,.slice Dp Dq Dr,.bool Ez,.slice EA EB EC,.bool Ik,.slice Il Im Io]:List Value).toArray=wf at *
 refine Pl.aj ?_
 have bz:∀ (a b c d:Int),Sz a 1→Sz b 1→Sz c 1→Sz d 1→Sz (a*b+c*d) 3:=fun a b c d ha hb hc hd=>Sz.add (ha.mul (M:=2) hb (by decide)) (hc.mul (M:=2) hd (by decide)) (by decide) (by decide)
 exact kE rfl rfl kf rfl rfl (by kernel_rfl) ⟨[.bool BI,.slice BJ BK BL,.bool Dn,.slice Dp Dq Dr,.bool Ez,.slice EA EB EC,.bool Ik,.slice Il Im Io],rfl,⟨⟨_,Zn.kp aeN xf.kp,bz _ _ _ _ bs0 bm0 bs1 bm2⟩,⟨_,Zn.kp aeO xf.kp,bz _ _ _ _ bs0 bm1 bs1 bm3⟩,⟨_,Zn.kp aeP xf.kp,bz _ _ _ _ bs2 bm0 bs3 bm2⟩,⟨_,Zn.kp aeQ xf.kp,bz _ _ _ _ bs2 bm1 bs3 bm3⟩,trivial⟩,rfl,(ao1).xt xf (by simp;have:=hB1.size;omega)⟩
end Go.Proofs.YtfhcmggpojhegaaGreatDoor
namespace Go.Proofs.YtfhcmggpojhegaaGreatDoor
open Go.RowKit
set_option linter.all false
set_option maxRecDepth 100000
set_option maxHeartbeats 8000000
theorem WH (N:Nat) (X:World):(Instr.fieldAt 112 (.pointer (some ⟨N,0,none⟩)) 2).run Tryz.prog X = .ok (.pointer (some ⟨N,2,none⟩)) X:=by go_simp
theorem aeR (N:Nat) (X:World):(Instr.fieldAt 48 (.pointer (some ⟨N,0,none⟩)) 1).run Tryz.prog X = .ok (.pointer (some ⟨N,1,none⟩)) X:=by go_simp
theorem aeS (N:Nat) (X:World):(Instr.fieldAt 48 (.pointer (some ⟨N,2,none⟩)) 1).run Tryz.prog X = .ok (.pointer (some ⟨N,3,none⟩)) X:=by go_simp
section
variable {L:List Oper} {K:List (Nat × Value)→World→Prop} {i m:Nat} {o:Oper} {x y:Operand} {r:List (Bool × Nat × Nat)} {l:List (Nat × Value)} {w:World}
theorem bG {N:Nat} {T T':TypeId} {cs cs':List Value} (hC:Cb w N T cs) (p:Nat) (part:List Value) (ho:Pl.nth L i=some o) (hp:o.op = .store T' x y) (hd:o.dst=none) (hg:o.guard=none) (hx:Pl.dF l x=some (.pointer (some ⟨N,p,none⟩))) (hy:Pl.dF l y=some (.agg part.toArray))
  (hi:(Tryz.prog.info? T').map (·.size)=some part.length) (hl:p+part.length≤cs.length) (h1:∀ v∈part,v.oneCell'=true) (nc:∀ c∈cs,gF c) (np:∀ c∈part,gF c) (hcs:rW cs p part=cs')
  (h:∀ w',Xt [N] w w'→Cb w' N T cs'→Pl.dO Tryz.prog L (fun _=>True) K r l w'):Pl.dO Tryz.prog L (fun _=>True) K ((false,i,m)::r) l w :=
 Pl.aW ho hp hd (by rw [hg];rfl) hx hy (Cb.zw hC p part hl _ hi h1) trivial (h _ (Xt.rW _ _ hC nc np) (by rw [← hcs];exact Cb.rW part p hC))
end
theorem Gd.four {w:World} {K:Nat} {cs:List Value} (h:Gd w K cs) (hl:cs.length=8):∃ b0 A0 n0 c0 b1 A1 n1 c1 b2 A2 n2 c2 b3 A3 n3 c3,cs=[.bool b0,.slice A0 n0 c0,.bool b1,.slice A1 n1 c1,.bool b2,.slice A2 n2 c2,.bool b3,.slice A3 n3 c3]:=by
 have one:∀ {cs:List Value} {n:Nat},Gd w K cs→cs.length=n+1→∃ b A k c l,cs = .bool b::.slice A k c::l∧Gd w K l∧l.length+1=n:=by
  intro cs n h hl
  match cs,h with
  | .bool b::.slice A k c::l,h=>exact ⟨b,A,k,c,l,rfl,h.2,by simpa using hl⟩
 obtain ⟨b0,A0,n0,c0,l0,rfl,h0,e0⟩:=one h hl
 obtain ⟨b1,A1,n1,c1,l1,rfl,h1,e1⟩:=one h0 (n:=5) (by omega)
 obtain ⟨b2,A2,n2,c2,l2,rfl,h2,e2⟩:=one h1 (n:=3) (by omega)
 obtain ⟨b3,A3,n3,c3,l3,rfl,h3,e3⟩:=one h2 (n:=1) (by omega)
 obtain rfl:l3=[]:=List.eq_nil_of_length_eq_zero (by omega)
 exact ⟨_,_,_,_,_,_,_,_,_,_,_,_,_,_,_,_,rfl⟩
namespace Tu
set_option linter.all false
set_option maxRecDepth 100000
set_option maxHeartbeats 8000000
theorem jm (u:Array Value) (X:World):(callFunc 35 u).run Tryz.prog X = .ok (.enter 35 u) X:=Pl.enters Tryz.func35 (by kernel_rfl) rfl u X
end Tu
open Tu
theorem RG (w:World) (A_a Jd:Option Addr) (c_a Je:Nat) (p1:Bool) (A1:Option Addr) (n1 c1:Nat) (p2:Bool) (A2:Option Addr) (n2 c2:Nat) (a b:Nat) (LA:Un w (.slice A_a (limbs a).length c_a) a) (LC:Un w (.slice Jd (limbs b).length Je) b) (h_o:Zn w (.agg #[.bool p1,.slice A1 n1 c1]) 1) (h_p:Zn w (.agg #[.bool p2,.slice A2 n2 c2]) 1) (hla:Sn a 90) (hlb:Sn b 90) (hab:a<b) :
  Calls Tryz.prog 133 #[.agg #[.slice A_a (limbs a).length c_a,.slice Jd (limbs b).length Je,.bool p1,.slice A1 n1 c1,.bool false,.slice none 0 0,.bool false,.slice none 0 0,.bool p1,.slice A1 n1 c1],.agg #[.bool p2,.slice A2 n2 c2,.bool false,.slice none 0 0,.bool false,.slice none 0 0,.bool p2,.slice A2 n2 c2]] w fun e w'=>∃ Ax nx cx Ay ny cy cs,e = .returned (.agg (.slice Ax nx cx::.slice Ay ny cy::cs).toArray)∧Un w' (.slice Ax nx cx) b∧Un w' (.slice Ay ny cy) a∧Gd w' 3 cs∧cs.length=8∧Ext w w':=by
 refine Pl.aZ (n:=80) (vs:=[.agg #[.slice A_a (limbs a).length c_a,.slice Jd (limbs b).length Je,.bool p1,.slice A1 n1 c1,.bool false,.slice none 0 0,.bool false,.slice none 0 0,.bool p1,.slice A1 n1 c1],.agg #[.bool p2,.slice A2 n2 c2,.bool false,.slice none 0 0,.bool false,.slice none 0 0,.bool p2,.slice A2 n2 c2]]) Tryz.func133 rfl (by kernel_rfl) (by simp) ?_
 repeat refine Pl.ay ?_
 refine Pl.ak (by kernel_rfl) ?_
 refine RB (cs:=[.slice A_a (limbs a).length c_a,.slice Jd (limbs b).length Je,.bool p1,.slice A1 n1 c1,.bool false,.slice none 0 0,.bool false,.slice none 0 0,.bool p1,.slice A1 n1 c1]) rfl rfl rfl rfl rfl (fun _ _=>trivial) ?_
 intro Ns w1 hB1 hNs k2
 refine RB (cs:=[.bool p2,.slice A2 n2 c2,.bool false,.slice none 0 0,.bool false,.slice none 0 0,.bool p2,.slice A2 n2 c2]) rfl rfl rfl rfl rfl (fun _ _=>trivial) ?_
 intro Nm w2 hB2 hNm k3
 refine fB rfl rfl rfl rfl (z:=.agg ([.slice none 0 0,.slice none 0 0,.bool false,.slice none 0 0,.bool false,.slice none 0 0,.bool false,.slice none 0 0,.bool false,.slice none 0 0]:List Value).toArray) (by kernel_rfl) (fun _ _=>trivial) ?_
 intro Nr w3 hB3 hNr k4
 replace k4:Cb w3 Nr 112 [.slice none 0 0,.slice none 0 0,.bool false,.slice none 0 0,.bool false,.slice none 0 0,.bool false,.slice none 0 0,.bool false,.slice none 0 0]:=k4
 refine Pl.aj ?_
 have dsm:Ns<Nm:=Nat.lt_of_lt_of_le k2.lt hNm
 replace k2:=Cb.ext k2 hB2
 have dmr:Nm<Nr:=Nat.lt_of_lt_of_le k3.lt hNr
 replace k2:=Cb.ext k2 hB3
 replace k3:=Cb.ext k3 hB3
 have bJ:=hB1.below (hB2.below hB3)
 have hlr:=k4.lt
 have hws:w.heap.size≤Ns:=hNs
 repeat refine Pl.ay ?_
 refine Pl.j6 (S:=fun X=>Ext w3 X) fo (Ext.drew (Ext.refl _)) ?_
 generalize w3.drew=w4
 intro hB4
 have mo:=hB4
 refine Pl.oN 2 255 (fun l' w'=>∃ (N_5:Nat) (N_6:Nat) (ao2:Value) (ao3:Value),l'=[(2,.pointer (some ⟨Ns,0,none⟩)),(3,.pointer (some ⟨Nm,0,none⟩)),(4,.pointer (some ⟨Nr,0,none⟩)),(5,.pointer (some ⟨N_5,0,none⟩)),(6,.pointer (some ⟨N_6,0,none⟩)),(11,ao2),(14,ao3)]∧Ext w3 w'∧w3.heap.size≤N_5∧Ib w' N_5 false (.slice none 0 0)∧w3.heap.size≤N_6∧Ib w' N_6 false (.slice none 0 0)∧Zn w' ao2 ((a:Nat):Int)∧Zn w' ao3 ((b:Nat):Int)∧N_5≠N_6) ?_ ?_
 rotate_left
 · intro hK
   refine Pl.aM [(true,0,0),(true,1,1),(true,3,3),(true,4,11)] 27 6 Pl.aB (by kernel_rfl) (by kernel_rfl) (by kernel_rfl) ?_
   refine bL mo rfl rfl rfl rfl rfl (JA _) ?_
   refine Pl.aX mo rfl rfl rfl rfl rfl (fun X hX=>Cb.jZ (j:=0) (Cb.ext k2 hX) rfl) ?_
   refine bL mo rfl rfl rfl rfl rfl (xh _) ?_
   refine Pl.aX mo rfl rfl rfl rfl rfl (fun X hX=>Cb.jZ (j:=1) (Cb.ext k2 hX) rfl) ?_
   refine Pl.aj ?_
   refine Pl.bS [2,6,7] 5 (by kernel_rfl) (by kernel_rfl) (by kernel_rfl) (Pl.aC ?_ (Pl.aC ?_ (Pl.aC ?_ Pl.aR)))
   · have ajW:=Un.below LA (Ext.below hB1 (Ext.below hB2 (Ext.below hB3 hB4)))
     refine Pl.az rfl rfl rfl rfl rfl jm ?_
     refine Calls.mono (eH _ _ a ajW) ?_
     rintro e w5 ⟨Ao,rfl,Ja,dJ⟩
     have hS5:=Ext.below mo dJ
     refine ⟨_,rfl,hS5,?_⟩
     have aho:Sz ((a:Nat):Int) 90:=Sn.sz hla
     refine Pl.aj ?_
     refine Pl.bS [5,6,7] 4 (by kernel_rfl) (by kernel_rfl) (by kernel_rfl) (Pl.aC ?_ (Pl.aC ?_ (Pl.aC ?_ Pl.aR)))
     · have ajX:=Un.below LC (Ext.below hB1 (Ext.below hB2 (Ext.below hB3 (Ext.below hB4 dJ))))
       refine Pl.az rfl rfl rfl rfl rfl jm ?_
       refine Calls.mono (eH _ _ b ajX) ?_
       rintro e w6 ⟨CF,rfl,nC,dV⟩
       have gP:=Ext.below hS5 dV
       refine ⟨_,rfl,gP,?_⟩
       have jJ:Sz ((b:Nat):Int) 90:=Sn.sz hlb
       refine Pl.aj ?_
       refine Pl.bS [6,7] 3 (by kernel_rfl) (by kernel_rfl) (by kernel_rfl) (Pl.aC ?_ (Pl.aC ?_ Pl.aR))
       · refine bW rfl rfl rfl rfl (fun _ k=>Ext.below gP k) ?_
         intro N5 w7 dP ady i_5
         have iK:=Ext.below gP dP
         refine Pl.aj ?_
         refine Pl.aM [(false,7,127)] 255 2 Pl.aB (by kernel_rfl) (by kernel_rfl) (by kernel_rfl) ?_
         refine bW rfl rfl rfl rfl (fun _ k=>Ext.below iK k) ?_
         intro N6 w8 dU wQ i_6
         have jk:=Ext.below iK dU
         refine Pl.aj ?_
         have RH:=Ib.ext i_5 dU
         have nI:=Zn.below Ja (Ext.below dV (Ext.below dP dU))
         have nD:=Zn.below nC (Ext.below dP dU)
         exact Pl.bN [(2,.pointer (some ⟨Ns,0,none⟩)),(3,.pointer (some ⟨Nm,0,none⟩)),(4,.pointer (some ⟨Nr,0,none⟩)),(5,.pointer (some ⟨N5,0,none⟩)),(6,.pointer (some ⟨N6,0,none⟩)),(11,Ao),(14,CF)] (Pl.aa rfl (Pl.aa rfl (Pl.aa rfl (Pl.aa rfl (Pl.aa rfl (Pl.aa rfl (Pl.aa rfl Pl.aI))))))) (hK _ _ ⟨N5,N6,Ao,CF,rfl,(Ext.below hB4 (Ext.below dJ (Ext.below dV (Ext.below dP dU)))),(Nat.le_trans (Below.size (Ext.below hB4 (Ext.below dJ dV))) ady),RH,(Nat.le_trans (Below.size (Ext.below hB4 (Ext.below dJ (Ext.below dV dP)))) wQ),i_6,nI,nD,(Nat.ne_of_lt (Nat.lt_of_lt_of_le (i_5).1 wQ))⟩)
       · refine bW rfl rfl rfl rfl (fun _ k=>Ext.below gP k) ?_
         intro N5 w7 dP ady i_5
         have iK:=Ext.below gP dP
         refine Pl.aj ?_
         refine Pl.aM [(false,6,191)] 255 2 Pl.aB (by kernel_rfl) (by kernel_rfl) (by kernel_rfl) ?_
         refine bW rfl rfl rfl rfl (fun _ k=>Ext.below iK k) ?_
         intro N6 w8 dU wQ i_6
         have jk:=Ext.below iK dU
         refine Pl.aj ?_
         have RH:=Ib.ext i_5 dU
         have nI:=Zn.below Ja (Ext.below dV (Ext.below dP dU))
         have nD:=Zn.below nC (Ext.below dP dU)
         exact Pl.bN [(2,.pointer (some ⟨Ns,0,none⟩)),(3,.pointer (some ⟨Nm,0,none⟩)),(4,.pointer (some ⟨Nr,0,none⟩)),(5,.pointer (some ⟨N6,0,none⟩)),(6,.pointer (some ⟨N5,0,none⟩)),(11,Ao),(14,CF)] (Pl.aa rfl (Pl.aa rfl (Pl.aa rfl (Pl.aa rfl (Pl.aa rfl (Pl.aa rfl (Pl.aa rfl Pl.aI))))))) (hK _ _ ⟨N6,N5,Ao,CF,rfl,(Ext.below hB4 (Ext.below dJ (Ext.below dV (Ext.below dP dU)))),(Nat.le_trans (Below.size (Ext.below hB4 (Ext.below dJ (Ext.below dV dP)))) wQ),i_6,(Nat.le_trans (Below.size (Ext.below hB4 (Ext.below dJ dV))) ady),RH,nI,nD,(Nat.ne_of_gt (Nat.lt_of_lt_of_le (i_5).1 wQ))⟩)
     · refine bW rfl rfl rfl rfl (fun _ k=>Ext.below hS5 k) ?_
       intro N3 w6 dV Q3 i_3
       have gP:=Ext.below hS5 dV
       refine Pl.aj ?_
       refine Pl.bS [5,7] 3 (by kernel_rfl) (by kernel_rfl) (by kernel_rfl) (Pl.aC ?_ (Pl.aC ?_ Pl.aR))
       · have zy:=Un.below LC (Ext.below hB1 (Ext.below hB2 (Ext.below hB3 (Ext.below hB4 (Ext.below dJ dV)))))
         refine Pl.az rfl rfl rfl rfl rfl jm ?_
         refine Calls.mono (eH _ _ b zy) ?_
         rintro e w7 ⟨Et,rfl,LX,dP⟩
         have iK:=Ext.below gP dP
         refine ⟨_,rfl,iK,?_⟩
         have aem:Sz ((b:Nat):Int) 90:=Sn.sz hlb
         refine Pl.aj ?_
         refine Pl.aM [(false,7,127)] 255 2 Pl.aB (by kernel_rfl) (by kernel_rfl) (by kernel_rfl) ?_
         refine bW rfl rfl rfl rfl (fun _ k=>Ext.below iK k) ?_
         intro N6 w8 dU wQ i_6
         have jk:=Ext.below iK dU
         refine Pl.aj ?_
         have zz:=Ib.ext i_3 (Ext.below dP dU)
         have nI:=Zn.below Ja (Ext.below dV (Ext.below dP dU))
         have uK:=Zn.below LX dU
         exact Pl.bN [(2,.pointer (some ⟨Ns,0,none⟩)),(3,.pointer (some ⟨Nm,0,none⟩)),(4,.pointer (some ⟨Nr,0,none⟩)),(5,.pointer (some ⟨N3,0,none⟩)),(6,.pointer (some ⟨N6,0,none⟩)),(11,Ao),(14,Et)] (Pl.aa rfl (Pl.aa rfl (Pl.aa rfl (Pl.aa rfl (Pl.aa rfl (Pl.aa rfl (Pl.aa rfl Pl.aI))))))) (hK _ _ ⟨N3,N6,Ao,Et,rfl,(Ext.below hB4 (Ext.below dJ (Ext.below dV (Ext.below dP dU)))),(Nat.le_trans (Below.size (Ext.below hB4 dJ)) Q3),zz,(Nat.le_trans (Below.size (Ext.below hB4 (Ext.below dJ (Ext.below dV dP)))) wQ),i_6,nI,uK,(Nat.ne_of_lt (Nat.lt_of_lt_of_le (Ib.ext i_3 dP).1 wQ))⟩)
       · refine bW rfl rfl rfl rfl (fun _ k=>Ext.below gP k) ?_
         intro N4 w7 dP CW i_4
         have iK:=Ext.below gP dP
         refine Pl.aj ?_
         refine Pl.aM [(false,5,223)] 255 2 Pl.aB (by kernel_rfl) (by kernel_rfl) (by kernel_rfl) ?_
         have qN:=Un.below LC (Ext.below hB1 (Ext.below hB2 (Ext.below hB3 (Ext.below hB4 (Ext.below dJ (Ext.below dV dP))))))
         refine Pl.az rfl rfl rfl rfl rfl jm ?_
         refine Calls.mono (eH _ _ b qN) ?_
         rintro e w8 ⟨wR,rfl,Ip,dU⟩
         have jk:=Ext.below iK dU
         refine ⟨_,rfl,jk,?_⟩
         have abI:Sz ((b:Nat):Int) 90:=Sn.sz hlb
         refine Pl.aj ?_
         have zz:=Ib.ext i_3 (Ext.below dP dU)
         have zA:=Ib.ext i_4 dU
         have nI:=Zn.below Ja (Ext.below dV (Ext.below dP dU))
         exact Pl.bN [(2,.pointer (some ⟨Ns,0,none⟩)),(3,.pointer (some ⟨Nm,0,none⟩)),(4,.pointer (some ⟨Nr,0,none⟩)),(5,.pointer (some ⟨N3,0,none⟩)),(6,.pointer (some ⟨N4,0,none⟩)),(11,Ao),(14,wR)] (Pl.aa rfl (Pl.aa rfl (Pl.aa rfl (Pl.aa rfl (Pl.aa rfl (Pl.aa rfl (Pl.aa rfl Pl.aI))))))) (hK _ _ ⟨N3,N4,Ao,wR,rfl,(Ext.below hB4 (Ext.below dJ (Ext.below dV (Ext.below dP dU)))),(Nat.le_trans (Below.size (Ext.below hB4 dJ)) Q3),zz,(Nat.le_trans (Below.size (Ext.below hB4 (Ext.below dJ dV))) CW),zA,nI,Ip,(Nat.ne_of_lt (Nat.lt_of_lt_of_le (i_3).1 CW))⟩)
     · refine bW rfl rfl rfl rfl (fun _ k=>Ext.below hS5 k) ?_
       intro N3 w6 dV Q3 i_3
       have gP:=Ext.below hS5 dV
       refine Pl.aj ?_
       refine Pl.bS [5,6] 3 (by kernel_rfl) (by kernel_rfl) (by kernel_rfl) (Pl.aC ?_ (Pl.aC ?_ Pl.aR))
       · have zy:=Un.below LC (Ext.below hB1 (Ext.below hB2 (Ext.below hB3 (Ext.below hB4 (Ext.below dJ dV)))))
         refine Pl.az rfl rfl rfl rfl rfl jm ?_
         refine Calls.mono (eH _ _ b zy) ?_
         rintro e w7 ⟨Et,rfl,LX,dP⟩
         have iK:=Ext.below gP dP
         refine ⟨_,rfl,iK,?_⟩
         have aem:Sz ((b:Nat):Int) 90:=Sn.sz hlb
         refine Pl.aj ?_
         refine Pl.aM [(false,6,191)] 255 2 Pl.aB (by kernel_rfl) (by kernel_rfl) (by kernel_rfl) ?_
         refine bW rfl rfl rfl rfl (fun _ k=>Ext.below iK k) ?_
         intro N6 w8 dU wQ i_6
         have jk:=Ext.below iK dU
         refine Pl.aj ?_
         have zz:=Ib.ext i_3 (Ext.below dP dU)
         have nI:=Zn.below Ja (Ext.below dV (Ext.below dP dU))
         have uK:=Zn.below LX dU
         exact Pl.bN [(2,.pointer (some ⟨Ns,0,none⟩)),(3,.pointer (some ⟨Nm,0,none⟩)),(4,.pointer (some ⟨Nr,0,none⟩)),(5,.pointer (some ⟨N6,0,none⟩)),(6,.pointer (some ⟨N3,0,none⟩)),(11,Ao),(14,Et)] (Pl.aa rfl (Pl.aa rfl (Pl.aa rfl (Pl.aa rfl (Pl.aa rfl (Pl.aa rfl (Pl.aa rfl Pl.aI))))))) (hK _ _ ⟨N6,N3,Ao,Et,rfl,(Ext.below hB4 (Ext.below dJ (Ext.below dV (Ext.below dP dU)))),(Nat.le_trans (Below.size (Ext.below hB4 (Ext.below dJ (Ext.below dV dP)))) wQ),i_6,(Nat.le_trans (Below.size (Ext.below hB4 dJ)) Q3),zz,nI,uK,(Nat.ne_of_gt (Nat.lt_of_lt_of_le (Ib.ext i_3 dP).1 wQ))⟩)
       · refine bW rfl rfl rfl rfl (fun _ k=>Ext.below gP k) ?_
         intro N4 w7 dP CW i_4
         have iK:=Ext.below gP dP
         refine Pl.aj ?_
         refine Pl.aM [(false,5,223)] 255 2 Pl.aB (by kernel_rfl) (by kernel_rfl) (by kernel_rfl) ?_
         have qN:=Un.below LC (Ext.below hB1 (Ext.below hB2 (Ext.below hB3 (Ext.below hB4 (Ext.below dJ (Ext.below dV dP))))))
         refine Pl.az rfl rfl rfl rfl rfl jm ?_
         refine Calls.mono (eH _ _ b qN) ?_
         rintro e w8 ⟨wR,rfl,Ip,dU⟩
         have jk:=Ext.below iK dU
         refine ⟨_,rfl,jk,?_⟩
         have abI:Sz ((b:Nat):Int) 90:=Sn.sz hlb
         refine Pl.aj ?_
         have zA:=Ib.ext i_4 dU
         have zz:=Ib.ext i_3 (Ext.below dP dU)
         have nI:=Zn.below Ja (Ext.below dV (Ext.below dP dU))
         exact Pl.bN [(2,.pointer (some ⟨Ns,0,none⟩)),(3,.pointer (some ⟨Nm,0,none⟩)),(4,.pointer (some ⟨Nr,0,none⟩)),(5,.pointer (some ⟨N4,0,none⟩)),(6,.pointer (some ⟨N3,0,none⟩)),(11,Ao),(14,wR)] (Pl.aa rfl (Pl.aa rfl (Pl.aa rfl (Pl.aa rfl (Pl.aa rfl (Pl.aa rfl (Pl.aa rfl Pl.aI))))))) (hK _ _ ⟨N4,N3,Ao,wR,rfl,(Ext.below hB4 (Ext.below dJ (Ext.below dV (Ext.below dP dU)))),(Nat.le_trans (Below.size (Ext.below hB4 (Ext.below dJ dV))) CW),zA,(Nat.le_trans (Below.size (Ext.below hB4 dJ)) Q3),zz,nI,Ip,(Nat.ne_of_gt (Nat.lt_of_lt_of_le (i_3).1 CW))⟩)
   · refine bW rfl rfl rfl rfl (fun _ k=>Ext.below mo k) ?_
     intro N1 w5 dJ uU i_1
     have hS5:=Ext.below mo dJ
     refine Pl.aj ?_
     refine Pl.bS [2,7] 4 (by kernel_rfl) (by kernel_rfl) (by kernel_rfl) (Pl.aC ?_ (Pl.aC ?_ Pl.aR))
     · have Gj:=Un.below LA (Ext.below hB1 (Ext.below hB2 (Ext.below hB3 (Ext.below hB4 dJ))))
       refine Pl.az rfl rfl rfl rfl rfl jm ?_
       refine Calls.mono (eH _ _ a Gj) ?_
       rintro e w6 ⟨lH,rfl,uB,dV⟩
       have gP:=Ext.below hS5 dV
       refine ⟨_,rfl,gP,?_⟩
       have Er:Sz ((a:Nat):Int) 90:=Sn.sz hla
       refine Pl.aj ?_
       refine Pl.bS [5,7] 3 (by kernel_rfl) (by kernel_rfl) (by kernel_rfl) (Pl.aC ?_ (Pl.aC ?_ Pl.aR))
       · have zy:=Un.below LC (Ext.below hB1 (Ext.below hB2 (Ext.below hB3 (Ext.below hB4 (Ext.below dJ dV)))))
         refine Pl.az rfl rfl rfl rfl rfl jm ?_
         refine Calls.mono (eH _ _ b zy) ?_
         rintro e w7 ⟨Et,rfl,LX,dP⟩
         have iK:=Ext.below gP dP
         refine ⟨_,rfl,iK,?_⟩
         have aem:Sz ((b:Nat):Int) 90:=Sn.sz hlb
         refine Pl.aj ?_
         refine Pl.aM [(false,7,127)] 255 2 Pl.aB (by kernel_rfl) (by kernel_rfl) (by kernel_rfl) ?_
         refine bW rfl rfl rfl rfl (fun _ k=>Ext.below iK k) ?_
         intro N6 w8 dU wQ i_6
         have jk:=Ext.below iK dU
         refine Pl.aj ?_
         have qO:=Ib.ext i_1 (Ext.below dV (Ext.below dP dU))
         have uL:=Zn.below uB (Ext.below dP dU)
         have uK:=Zn.below LX dU
         exact Pl.bN [(2,.pointer (some ⟨Ns,0,none⟩)),(3,.pointer (some ⟨Nm,0,none⟩)),(4,.pointer (some ⟨Nr,0,none⟩)),(5,.pointer (some ⟨N1,0,none⟩)),(6,.pointer (some ⟨N6,0,none⟩)),(11,lH),(14,Et)] (Pl.aa rfl (Pl.aa rfl (Pl.aa rfl (Pl.aa rfl (Pl.aa rfl (Pl.aa rfl (Pl.aa rfl Pl.aI))))))) (hK _ _ ⟨N1,N6,lH,Et,rfl,(Ext.below hB4 (Ext.below dJ (Ext.below dV (Ext.below dP dU)))),(Nat.le_trans (Below.size hB4) uU),qO,(Nat.le_trans (Below.size (Ext.below hB4 (Ext.below dJ (Ext.below dV dP)))) wQ),i_6,uL,uK,(Nat.ne_of_lt (Nat.lt_of_lt_of_le (Ib.ext i_1 (Ext.below dV dP)).1 wQ))⟩)
       · refine bW rfl rfl rfl rfl (fun _ k=>Ext.below gP k) ?_
         intro N4 w7 dP CW i_4
         have iK:=Ext.below gP dP
         refine Pl.aj ?_
         refine Pl.aM [(false,5,223)] 255 2 Pl.aB (by kernel_rfl) (by kernel_rfl) (by kernel_rfl) ?_
         have qN:=Un.below LC (Ext.below hB1 (Ext.below hB2 (Ext.below hB3 (Ext.below hB4 (Ext.below dJ (Ext.below dV dP))))))
         refine Pl.az rfl rfl rfl rfl rfl jm ?_
         refine Calls.mono (eH _ _ b qN) ?_
         rintro e w8 ⟨wR,rfl,Ip,dU⟩
         have jk:=Ext.below iK dU
         refine ⟨_,rfl,jk,?_⟩
         have abI:Sz ((b:Nat):Int) 90:=Sn.sz hlb
         refine Pl.aj ?_
         have qO:=Ib.ext i_1 (Ext.below dV (Ext.below dP dU))
         have zA:=Ib.ext i_4 dU
         have uL:=Zn.below uB (Ext.below dP dU)
         exact Pl.bN [(2,.pointer (some ⟨Ns,0,none⟩)),(3,.pointer (some ⟨Nm,0,none⟩)),(4,.pointer (some ⟨Nr,0,none⟩)),(5,.pointer (some ⟨N1,0,none⟩)),(6,.pointer (some ⟨N4,0,none⟩)),(11,lH),(14,wR)] (Pl.aa rfl (Pl.aa rfl (Pl.aa rfl (Pl.aa rfl (Pl.aa rfl (Pl.aa rfl (Pl.aa rfl Pl.aI))))))) (hK _ _ ⟨N1,N4,lH,wR,rfl,(Ext.below hB4 (Ext.below dJ (Ext.below dV (Ext.below dP dU)))),(Nat.le_trans (Below.size hB4) uU),qO,(Nat.le_trans (Below.size (Ext.below hB4 (Ext.below dJ dV))) CW),zA,uL,Ip,(Nat.ne_of_lt (Nat.lt_of_lt_of_le (Ib.ext i_1 dV).1 CW))⟩)
     · refine bW rfl rfl rfl rfl (fun _ k=>Ext.below hS5 k) ?_
       intro N2 w6 dV uV i_2
       have gP:=Ext.below hS5 dV
       refine Pl.aj ?_
       refine Pl.aM [(false,2,219),(false,5,223)] 255 2 Pl.aB (by kernel_rfl) (by kernel_rfl) (by kernel_rfl) ?_
       have RI:=Un.below LA (Ext.below hB1 (Ext.below hB2 (Ext.below hB3 (Ext.below hB4 (Ext.below dJ dV)))))
       refine Pl.az rfl rfl rfl rfl rfl jm ?_
       refine Calls.mono (eH _ _ a RI) ?_
       rintro e w7 ⟨CF,rfl,nC,dP⟩
       have iK:=Ext.below gP dP
       refine ⟨_,rfl,iK,?_⟩
       have jJ:Sz ((a:Nat):Int) 90:=Sn.sz hla
       have qN:=Un.below LC (Ext.below hB1 (Ext.below hB2 (Ext.below hB3 (Ext.below hB4 (Ext.below dJ (Ext.below dV dP))))))
       refine Pl.az rfl rfl rfl rfl rfl jm ?_
       refine Calls.mono (eH _ _ b qN) ?_
       rintro e w8 ⟨wR,rfl,Ip,dU⟩
       have jk:=Ext.below iK dU
       refine ⟨_,rfl,jk,?_⟩
       have abI:Sz ((b:Nat):Int) 90:=Sn.sz hlb
       refine Pl.aj ?_
       have qO:=Ib.ext i_1 (Ext.below dV (Ext.below dP dU))
       have RJ:=Ib.ext i_2 (Ext.below dP dU)
       have nD:=Zn.below nC dU
       exact Pl.bN [(2,.pointer (some ⟨Ns,0,none⟩)),(3,.pointer (some ⟨Nm,0,none⟩)),(4,.pointer (some ⟨Nr,0,none⟩)),(5,.pointer (some ⟨N1,0,none⟩)),(6,.pointer (some ⟨N2,0,none⟩)),(11,CF),(14,wR)] (Pl.aa rfl (Pl.aa rfl (Pl.aa rfl (Pl.aa rfl (Pl.aa rfl (Pl.aa rfl (Pl.aa rfl Pl.aI))))))) (hK _ _ ⟨N1,N2,CF,wR,rfl,(Ext.below hB4 (Ext.below dJ (Ext.below dV (Ext.below dP dU)))),(Nat.le_trans (Below.size hB4) uU),qO,(Nat.le_trans (Below.size (Ext.below hB4 dJ)) uV),RJ,nD,Ip,(Nat.ne_of_lt (Nat.lt_of_lt_of_le (i_1).1 uV))⟩)
   · refine bW rfl rfl rfl rfl (fun _ k=>Ext.below mo k) ?_
     intro N1 w5 dJ uU i_1
     have hS5:=Ext.below mo dJ
     refine Pl.aj ?_
     refine Pl.bS [2,6] 4 (by kernel_rfl) (by kernel_rfl) (by kernel_rfl) (Pl.aC ?_ (Pl.aC ?_ Pl.aR))
     · have Gj:=Un.below LA (Ext.below hB1 (Ext.below hB2 (Ext.below hB3 (Ext.below hB4 dJ))))
       refine Pl.az rfl rfl rfl rfl rfl jm ?_
       refine Calls.mono (eH _ _ a Gj) ?_
       rintro e w6 ⟨lH,rfl,uB,dV⟩
       have gP:=Ext.below hS5 dV
       refine ⟨_,rfl,gP,?_⟩
       have Er:Sz ((a:Nat):Int) 90:=Sn.sz hla
       refine Pl.aj ?_
       refine Pl.bS [5,6] 3 (by kernel_rfl) (by kernel_rfl) (by kernel_rfl) (Pl.aC ?_ (Pl.aC ?_ Pl.aR))
       · have zy:=Un.below LC (Ext.below hB1 (Ext.below hB2 (Ext.below hB3 (Ext.below hB4 (Ext.below dJ dV)))))
         refine Pl.az rfl rfl rfl rfl rfl jm ?_
         refine Calls.mono (eH _ _ b zy) ?_
         rintro e w7 ⟨Et,rfl,LX,dP⟩
         have iK:=Ext.below gP dP
         refine ⟨_,rfl,iK,?_⟩
         have aem:Sz ((b:Nat):Int) 90:=Sn.sz hlb
         refine Pl.aj ?_
         refine Pl.aM [(false,6,191)] 255 2 Pl.aB (by kernel_rfl) (by kernel_rfl) (by kernel_rfl) ?_
         refine bW rfl rfl rfl rfl (fun _ k=>Ext.below iK k) ?_
         intro N6 w8 dU wQ i_6
         have jk:=Ext.below iK dU
         refine Pl.aj ?_
         have qO:=Ib.ext i_1 (Ext.below dV (Ext.below dP dU))
         have uL:=Zn.below uB (Ext.below dP dU)
         have uK:=Zn.below LX dU
         exact Pl.bN [(2,.pointer (some ⟨Ns,0,none⟩)),(3,.pointer (some ⟨Nm,0,none⟩)),(4,.pointer (some ⟨Nr,0,none⟩)),(5,.pointer (some ⟨N6,0,none⟩)),(6,.pointer (some ⟨N1,0,none⟩)),(11,lH),(14,Et)] (Pl.aa rfl (Pl.aa rfl (Pl.aa rfl (Pl.aa rfl (Pl.aa rfl (Pl.aa rfl (Pl.aa rfl Pl.aI))))))) (hK _ _ ⟨N6,N1,lH,Et,rfl,(Ext.below hB4 (Ext.below dJ (Ext.below dV (Ext.below dP dU)))),(Nat.le_trans (Below.size (Ext.below hB4 (Ext.below dJ (Ext.below dV dP)))) wQ),i_6,(Nat.le_trans (Below.size hB4) uU),qO,uL,uK,(Nat.ne_of_gt (Nat.lt_of_lt_of_le (Ib.ext i_1 (Ext.below dV dP)).1 wQ))⟩)
       · refine bW rfl rfl rfl rfl (fun _ k=>Ext.below gP k) ?_
         intro N4 w7 dP CW i_4
         have iK:=Ext.below gP dP
         refine Pl.aj ?_
         refine Pl.aM [(false,5,223)] 255 2 Pl.aB (by kernel_rfl) (by kernel_rfl) (by kernel_rfl) ?_
         have qN:=Un.below LC (Ext.below hB1 (Ext.below hB2 (Ext.below hB3 (Ext.below hB4 (Ext.below dJ (Ext.below dV dP))))))
         refine Pl.az rfl rfl rfl rfl rfl jm ?_
         refine Calls.mono (eH _ _ b qN) ?_
         rintro e w8 ⟨wR,rfl,Ip,dU⟩
         have jk:=Ext.below iK dU
         refine ⟨_,rfl,jk,?_⟩
         have abI:Sz ((b:Nat):Int) 90:=Sn.sz hlb
         refine Pl.aj ?_
         have zA:=Ib.ext i_4 dU
         have qO:=Ib.ext i_1 (Ext.below dV (Ext.below dP dU))
         have uL:=Zn.below uB (Ext.below dP dU)
         exact Pl.bN [(2,.pointer (some ⟨Ns,0,none⟩)),(3,.pointer (some ⟨Nm,0,none⟩)),(4,.pointer (some ⟨Nr,0,none⟩)),(5,.pointer (some ⟨N4,0,none⟩)),(6,.pointer (some ⟨N1,0,none⟩)),(11,lH),(14,wR)] (Pl.aa rfl (Pl.aa rfl (Pl.aa rfl (Pl.aa rfl (Pl.aa rfl (Pl.aa rfl (Pl.aa rfl Pl.aI))))))) (hK _ _ ⟨N4,N1,lH,wR,rfl,(Ext.below hB4 (Ext.below dJ (Ext.below dV (Ext.below dP dU)))),(Nat.le_trans (Below.size (Ext.below hB4 (Ext.below dJ dV))) CW),zA,(Nat.le_trans (Below.size hB4) uU),qO,uL,Ip,(Nat.ne_of_gt (Nat.lt_of_lt_of_le (Ib.ext i_1 dV).1 CW))⟩)
     · refine bW rfl rfl rfl rfl (fun _ k=>Ext.below hS5 k) ?_
       intro N2 w6 dV uV i_2
       have gP:=Ext.below hS5 dV
       refine Pl.aj ?_
       refine Pl.aM [(false,2,219),(false,5,223)] 255 2 Pl.aB (by kernel_rfl) (by kernel_rfl) (by kernel_rfl) ?_
       have RI:=Un.below LA (Ext.below hB1 (Ext.below hB2 (Ext.below hB3 (Ext.below hB4 (Ext.below dJ dV)))))
       refine Pl.az rfl rfl rfl rfl rfl jm ?_
       refine Calls.mono (eH _ _ a RI) ?_
       rintro e w7 ⟨CF,rfl,nC,dP⟩
       have iK:=Ext.below gP dP
       refine ⟨_,rfl,iK,?_⟩
       have jJ:Sz ((a:Nat):Int) 90:=Sn.sz hla
       have qN:=Un.below LC (Ext.below hB1 (Ext.below hB2 (Ext.below hB3 (Ext.below hB4 (Ext.below dJ (Ext.below dV dP))))))
       refine Pl.az rfl rfl rfl rfl rfl jm ?_
       refine Calls.mono (eH _ _ b qN) ?_
       rintro e w8 ⟨wR,rfl,Ip,dU⟩
       have jk:=Ext.below iK dU
       refine ⟨_,rfl,jk,?_⟩
       have abI:Sz ((b:Nat):Int) 90:=Sn.sz hlb
       refine Pl.aj ?_
       have RJ:=Ib.ext i_2 (Ext.below dP dU)
       have qO:=Ib.ext i_1 (Ext.below dV (Ext.below dP dU))
       have nD:=Zn.below nC dU
       exact Pl.bN [(2,.pointer (some ⟨Ns,0,none⟩)),(3,.pointer (some ⟨Nm,0,none⟩)),(4,.pointer (some ⟨Nr,0,none⟩)),(5,.pointer (some ⟨N2,0,none⟩)),(6,.pointer (some ⟨N1,0,none⟩)),(11,CF),(14,wR)] (Pl.aa rfl (Pl.aa rfl (Pl.aa rfl (Pl.aa rfl (Pl.aa rfl (Pl.aa rfl (Pl.aa rfl Pl.aI))))))) (hK _ _ ⟨N2,N1,CF,wR,rfl,(Ext.below hB4 (Ext.below dJ (Ext.below dV (Ext.below dP dU)))),(Nat.le_trans (Below.size (Ext.below hB4 dJ)) uV),RJ,(Nat.le_trans (Below.size hB4) uU),qO,nD,Ip,(Nat.ne_of_gt (Nat.lt_of_lt_of_le (i_1).1 uV))⟩)
 rintro _ aBj ⟨Dt,Du,akU,akV,rfl,agi,BN,abJ,BO,abK,Kn,WI,tO⟩
 have agj:=agi
 have aho:Sz ((a:Nat):Int) 90:=Sn.sz hla
 have jJ:Sz ((b:Nat):Int) 90:=Sn.sz hlb
 refine Pl.aM [(false,8,255),(false,9,511)] 1023 0 Pl.aB (by kernel_rfl) (by kernel_rfl) (by kernel_rfl) ?_
 obtain ⟨xH,xI,xJ,xK,rfl⟩:=Zn.sh Kn
 refine lG rfl rfl rfl rfl rfl rfl abJ (fun _ T=>T _ agj (Nat.le_trans (Below.size (Ext.refl w3)) BN)) ?_
 intro aBk abL abM ajZ ao5
 have ao6:=abL _ agi (Nat.le_trans (Below.size (Ext.refl w3)) BN)
 have agk:=abL _ agj (Nat.le_trans (Below.size (Ext.refl w3)) BN)
 have Jl:=ajZ _ _ _ (Ne.symm tO) abK
 have Iq:=abM _ _ Kn
 have wS:=abM _ _ WI
 obtain ⟨xL,xM,xN,xO,rfl⟩:=Zn.sh wS
 refine lG rfl rfl rfl rfl rfl rfl Jl (fun _ T=>T _ agk (Nat.le_trans (Below.size (Ext.refl w3)) BO)) ?_
 intro anc abN abO aj0 ao7
 have yx:=abN _ ao6 (Nat.le_trans (Below.size (Ext.refl w3)) BO)
 have JX:=abN _ agk (Nat.le_trans (Below.size (Ext.refl w3)) BO)
 have Ir:=abO _ _ Iq
 have RL:=aj0 _ _ _ tO ao5
 have Iu:=abO _ _ wS
 refine Pl.aj ?_
 refine Pl.uT (by kernel_rfl) ?_
 have UY:=bJ.below yx
 have h5:=RL
 have h6:=ao7
 have hza:=Ir
 have hzb:=Iu
 replace k2:=Cb.ext k2 yx
 replace k3:=Cb.ext k3 yx
 replace k4:=Cb.ext k4 yx
 have Ko:=Zn.below h_o UY
 have Kq:=Zn.below h_p UY
 have d5:Nr<Dt:=Nat.lt_of_lt_of_le (show Nr<w3.heap.size from hlr) BN
 have d6:Nr<Du:=Nat.lt_of_lt_of_le (show Nr<w3.heap.size from hlr) BO
 repeat refine Pl.ay ?_
 refine Pl.ak (by kernel_rfl) ?_
 refine fB rfl rfl rfl rfl (z:=.agg ([.bool false,.slice none 0 0,.bool false,.slice none 0 0]:List Value).toArray) (by kernel_rfl) (fun _ _=>trivial) ?_
 intro No v0 uo hNo ko
 replace ko:Cb v0 No 108 [.bool false,.slice none 0 0,.bool false,.slice none 0 0]:=ko
 refine Pl.aj ?_
 have d5o:Dt<No:=Nat.lt_of_lt_of_le h5.1 hNo
 have d6o:Du<No:=Nat.lt_of_lt_of_le h6.1 hNo
 replace k2:=Cb.ext k2 uo
 replace k3:=Cb.ext k3 uo
 replace k4:=Cb.ext k4 uo
 replace h5:=Ib.ext h5 uo
 replace h6:=Ib.ext h6 uo
 replace hza:=Zn.below hza uo
 replace hzb:=Zn.below hzb uo
 replace Ko:=Zn.below Ko uo
 replace Kq:=Zn.below Kq uo
 have hE:=UY.below uo
 clear UY
 repeat refine Pl.ay ?_
 refine Pl.ak (by kernel_rfl) ?_
 refine Pl.aA trivial rfl rfl rfl rfl rfl ?_
 refine Pl.aj ?_
 repeat refine Pl.ay ?_
 repeat refine Pl.ay ?_
 refine Pl.dM ?_
 refine Pl.sH 2 ?_
 refine Pl.wO ?_
 repeat refine Pl.ay ?_
 refine Pl.ak (by kernel_rfl) ?_
 refine Pl.aN (v:=.bool true) trivial rfl rfl rfl rfl rfl rfl (fun X=>jc (by decide) X) ?_
 refine Pl.aj ?_
 repeat refine Pl.ay ?_
 refine Pl.cK rfl ?_
 repeat refine Pl.ay ?_
 refine Pl.bM ?_
 repeat refine Pl.ay ?_
 refine Pl.dM ?_
 repeat refine Pl.ay ?_
 refine Pl.ak (by kernel_rfl) ?_
 refine Pl.aA trivial rfl rfl rfl rfl rfl ?_
 refine Pl.aF trivial rfl rfl rfl rfl rfl ?_
 refine Pl.aj ?_
 repeat refine Pl.ay ?_
 refine Pl.iJ (S:=fun X=>Cb X Nm 110 [.bool p2,.slice A2 n2 c2,.bool false,.slice none 0 0,.bool false,.slice none 0 0,.bool p2,.slice A2 n2 c2]∧Ib X Dt xH (.slice xI xJ xK)∧Ib X Du xL (.slice xM xN xO)) [(true,0,0),(true,1,1),(true,2,3),(true,3,7),(true,4,15),(true,5,31),(false,6,63),(true,7,127),(false,8,255)] fo (by repeat first | exact Pl.aB | refine Pl.lS ?_ | refine Pl.oh ?_ | refine Pl.yj ?_) (by kernel_rfl) ⟨Cb.ext k3 (Ext.drew (Ext.refl _)),Ib.ext h5 (Ext.drew (Ext.refl _)),Ib.ext h6 (Ext.drew (Ext.refl _))⟩ ?_
 have hD0:=Ext.drew (Ext.refl v0)
 generalize v0.drew=x0 at *
 intro hS0
 refine Pl.aA hS0 rfl rfl rfl rfl rfl ?_
 refine Pl.aA hS0 rfl rfl rfl rfl rfl ?_
 refine aS hS0 rfl rfl rfl rfl rfl rfl (uI _) ?_
 refine Pl.aX hS0 rfl rfl rfl rfl rfl (fun X hX=>Cb.bD hX.1 0 [.bool p2,.slice A2 n2 c2,.bool false,.slice none 0 0] rfl _ _ rfl rfl (by kernel_rfl)) ?_
 refine Pl.aX hS0 rfl rfl rfl rfl rfl (fun X hX=>Ib.load hX.2.1) ?_
 refine Pl.aX hS0 rfl rfl rfl rfl rfl (fun X hX=>Ib.load hX.2.2) ?_
 refine Pl.az rfl rfl rfl rfl rfl (fun u X=>Pl.enters Tryz.func181 (by kernel_rfl) rfl u X) ?_
 refine Calls.mono (nW _ _ _ _ _ 1 _ _ _ _ 0 _ _ _ _ (a:Int) _ _ _ _ (b:Int) (Zn.below Kq hD0) (Sz.lit (by decide) (by decide)) (Zn.nil _) (Sz.lit (by decide) (by decide)) (Zn.below hza hD0) ((Sn.sz hla).le (by decide)) (Zn.below hzb hD0) ((Sn.sz hlb).le (by decide))) ?_
 rintro e y0 ⟨iA,gT,gU,gV,rfl,hr0,hC0⟩
 have hT0:Cb y0 Nm 110 [.bool p2,.slice A2 n2 c2,.bool false,.slice none 0 0,.bool false,.slice none 0 0,.bool p2,.slice A2 n2 c2]∧Ib y0 Dt xH (.slice xI xJ xK)∧Ib y0 Du xL (.slice xM xN xO):=⟨Cb.ext hS0.1 hC0,Ib.ext hS0.2.1 hC0,Ib.ext hS0.2.2 hC0⟩
 have hG0:=hD0.below hC0
 have aj1:=Cb.ext ko hG0
 refine ⟨_,rfl,hT0,?_⟩
 refine aS hT0 rfl rfl rfl rfl rfl rfl (dS _) ?_
 have VS:Xt [No] y0 (y0.setCells No 0 [.bool iA,.slice gT gU gV]):=Xt.rW _ _ aj1 (aD (aD aK)) (aD aK)
 refine Pl.aW rfl rfl rfl rfl rfl rfl (Cb.zw aj1 0 [.bool iA,.slice gT gU gV] (by simp) _ (by kernel_rfl) (by simp [Value.oneCell'])) ⟨VS.cb hT0.1 (by simp;omega),Ib.xt hT0.2.1 VS (by simp;omega),Ib.xt hT0.2.2 VS (by simp;omega)⟩ ?_
 have auS:Cb (y0.setCells No 0 [.bool iA,.slice gT gU gV]) No 108 [.bool iA,.slice gT gU gV,.bool false,.slice none 0 0]:=Cb.rW [.bool iA,.slice gT gU gV] 0 aj1
 generalize y0.setCells No 0 [.bool iA,.slice gT gU gV]=v1 at *
 refine Pl.aj ?_
 have xy0:Xt [No] v0 v1:=(Xt.ext hG0).trans VS
 replace k2:=xy0.cb k2 (by simp;omega)
 replace k3:=xy0.cb k3 (by simp;omega)
 replace k4:=xy0.cb k4 (by simp;omega)
 replace h5:=Ib.xt h5 xy0 (by simp;omega)
 replace h6:=Ib.xt h6 xy0 (by simp;omega)
 replace hza:=Zn.kp hza xy0.kp
 replace hzb:=Zn.kp hzb xy0.kp
 replace Ko:=Zn.kp Ko xy0.kp
 replace Kq:=Zn.kp Kq xy0.kp
 replace ko:=auS
 replace hE:=hE.xt xy0 (by simp;have:=hB1.size;omega)
 replace hr0:=Zn.kp hr0 VS.kp
 rw [show (1:Int)*(a:Int)+0*(b:Int)=(a:Int) from by omega] at hr0
 have auT:¬ (Int.sign (a:Int))<0:=by have:=Int.sign_nonneg_iff.2 (show (0:Int)≤(a:Int) by omega);omega
 repeat refine Pl.ay ?_
 refine Pl.ak (by kernel_rfl) ?_
 refine Pl.aA trivial rfl rfl rfl rfl rfl ?_
 refine aS trivial rfl rfl rfl rfl rfl rfl (dS _) ?_
 refine Pl.aH trivial rfl rfl rfl rfl rfl (Cb.bD ko 0 [.bool iA,.slice gT gU gV] rfl _ _ rfl rfl (by kernel_rfl)) ?_
 refine Pl.az rfl rfl rfl rfl rfl (fun u X=>Pl.enters Tryz.func92 (by kernel_rfl) rfl u X) ?_
 refine Calls.mono (F9 _ _ (a:Int) hr0 _ rfl) ?_
 rintro e t0 ⟨rfl,nL⟩
 refine ⟨_,rfl,trivial,?_⟩
 refine Pl.aN (v:=.bool false) trivial rfl rfl rfl rfl rfl rfl (fun X=>jc (decide_eq_false auT) X) ?_
 refine Pl.aj ?_
 replace k2:=Cb.ext k2 nL
 replace k3:=Cb.ext k3 nL
 replace k4:=Cb.ext k4 nL
 replace h5:=Ib.ext h5 nL
 replace h6:=Ib.ext h6 nL
 replace hza:=Zn.below hza nL
 replace hzb:=Zn.below hzb nL
 replace Ko:=Zn.below Ko nL
 replace Kq:=Zn.below Kq nL
 replace ko:=Cb.ext ko nL
 replace hE:=hE.below nL
 replace hr0:=Zn.below hr0 nL
 repeat refine Pl.ay ?_
 refine Pl.bn rfl ?_
 repeat refine Pl.ay ?_
 refine Pl.bM ?_
 refine Pl.dG ?_
 repeat refine Pl.ay ?_
 refine Pl.ak (by kernel_rfl) ?_
 refine Pl.aN (v:=.int .i64 1) trivial rfl rfl rfl rfl rfl rfl (fun X=>nM (by decide) (by decide) (by decide) X) ?_
 refine Pl.aA trivial rfl rfl rfl rfl rfl ?_
 refine Pl.aj ?_
 refine Pl.wP ?_
 refine Pl.wO ?_
 repeat refine Pl.ay ?_
 refine Pl.ak (by kernel_rfl) ?_
 refine Pl.aN (v:=.bool true) trivial rfl rfl rfl rfl rfl rfl (fun X=>jc (by decide) X) ?_
 refine Pl.aj ?_
 repeat refine Pl.ay ?_
 refine Pl.cK rfl ?_
 repeat refine Pl.ay ?_
 refine Pl.bM ?_
 repeat refine Pl.ay ?_
 refine Pl.dM ?_
 repeat refine Pl.ay ?_
 refine Pl.ak (by kernel_rfl) ?_
 refine Pl.aA trivial rfl rfl rfl rfl rfl ?_
 refine Pl.aF trivial rfl rfl rfl rfl rfl ?_
 refine Pl.aj ?_
 repeat refine Pl.ay ?_
 refine Pl.iJ (S:=fun X=>Cb X Nm 110 [.bool p2,.slice A2 n2 c2,.bool false,.slice none 0 0,.bool false,.slice none 0 0,.bool p2,.slice A2 n2 c2]∧Ib X Dt xH (.slice xI xJ xK)∧Ib X Du xL (.slice xM xN xO)) [(true,0,0),(true,1,1),(true,2,3),(true,3,7),(true,4,15),(true,5,31),(false,6,63),(true,7,127),(false,8,255)] fo (by repeat first | exact Pl.aB | refine Pl.lS ?_ | refine Pl.oh ?_ | refine Pl.yj ?_) (by kernel_rfl) ⟨Cb.ext k3 (Ext.drew (Ext.refl _)),Ib.ext h5 (Ext.drew (Ext.refl _)),Ib.ext h6 (Ext.drew (Ext.refl _))⟩ ?_
 have hD1:=Ext.drew (Ext.refl t0)
 generalize t0.drew=x1 at *
 intro hS1
 refine Pl.aA hS1 rfl rfl rfl rfl rfl ?_
 refine Pl.aA hS1 rfl rfl rfl rfl rfl ?_
 refine aS hS1 rfl rfl rfl rfl rfl rfl (uJ _) ?_
 refine Pl.aX hS1 rfl rfl rfl rfl rfl (fun X hX=>Cb.bD hX.1 4 [.bool false,.slice none 0 0,.bool p2,.slice A2 n2 c2] rfl _ _ rfl rfl (by kernel_rfl)) ?_
 refine Pl.aX hS1 rfl rfl rfl rfl rfl (fun X hX=>Ib.load hX.2.1) ?_
 refine Pl.aX hS1 rfl rfl rfl rfl rfl (fun X hX=>Ib.load hX.2.2) ?_
 refine Pl.az rfl rfl rfl rfl rfl (fun u X=>Pl.enters Tryz.func181 (by kernel_rfl) rfl u X) ?_
 refine Calls.mono (nW _ _ _ _ _ 0 _ _ _ _ 1 _ _ _ _ (a:Int) _ _ _ _ (b:Int) (Zn.nil _) (Sz.lit (by decide) (by decide)) (Zn.below Kq hD1) (Sz.lit (by decide) (by decide)) (Zn.below hza hD1) ((Sn.sz hla).le (by decide)) (Zn.below hzb hD1) ((Sn.sz hlb).le (by decide))) ?_
 rintro e y1 ⟨eD,dZ,d9,ed,rfl,hr1,hC1⟩
 have hT1:Cb y1 Nm 110 [.bool p2,.slice A2 n2 c2,.bool false,.slice none 0 0,.bool false,.slice none 0 0,.bool p2,.slice A2 n2 c2]∧Ib y1 Dt xH (.slice xI xJ xK)∧Ib y1 Du xL (.slice xM xN xO):=⟨Cb.ext hS1.1 hC1,Ib.ext hS1.2.1 hC1,Ib.ext hS1.2.2 hC1⟩
 have hG1:=hD1.below hC1
 have aj2:=Cb.ext ko hG1
 refine ⟨_,rfl,hT1,?_⟩
 refine aS hT1 rfl rfl rfl rfl rfl rfl (dI _) ?_
 have VT:Xt [No] y1 (y1.setCells No 2 [.bool eD,.slice dZ d9 ed]):=Xt.rW _ _ aj2 (aD (aD aK)) (aD aK)
 refine Pl.aW rfl rfl rfl rfl rfl rfl (Cb.zw aj2 2 [.bool eD,.slice dZ d9 ed] (by simp) _ (by kernel_rfl) (by simp [Value.oneCell'])) ⟨VT.cb hT1.1 (by simp;omega),Ib.xt hT1.2.1 VT (by simp;omega),Ib.xt hT1.2.2 VT (by simp;omega)⟩ ?_
 have auU:Cb (y1.setCells No 2 [.bool eD,.slice dZ d9 ed]) No 108 [.bool iA,.slice gT gU gV,.bool eD,.slice dZ d9 ed]:=Cb.rW [.bool eD,.slice dZ d9 ed] 2 aj2
 generalize y1.setCells No 2 [.bool eD,.slice dZ d9 ed]=v2 at *
 refine Pl.aj ?_
 have xy1:Xt [No] t0 v2:=(Xt.ext hG1).trans VT
 replace k2:=xy1.cb k2 (by simp;omega)
 replace k3:=xy1.cb k3 (by simp;omega)
 replace k4:=xy1.cb k4 (by simp;omega)
 replace h5:=Ib.xt h5 xy1 (by simp;omega)
 replace h6:=Ib.xt h6 xy1 (by simp;omega)
 replace hza:=Zn.kp hza xy1.kp
 replace hzb:=Zn.kp hzb xy1.kp
 replace Ko:=Zn.kp Ko xy1.kp
 replace Kq:=Zn.kp Kq xy1.kp
 replace ko:=auU
 replace hE:=hE.xt xy1 (by simp;have:=hB1.size;omega)
 replace hr1:=Zn.kp hr1 VT.kp
 replace hr0:=Zn.kp hr0 xy1.kp
 rw [show (0:Int)*(a:Int)+1*(b:Int)=(b:Int) from by omega] at hr1
 have auV:¬ (Int.sign (b:Int))<0:=by have:=Int.sign_nonneg_iff.2 (show (0:Int)≤(b:Int) by omega);omega
 repeat refine Pl.ay ?_
 refine Pl.ak (by kernel_rfl) ?_
 refine Pl.aA trivial rfl rfl rfl rfl rfl ?_
 refine aS trivial rfl rfl rfl rfl rfl rfl (dI _) ?_
 refine Pl.aH trivial rfl rfl rfl rfl rfl (Cb.bD ko 2 [.bool eD,.slice dZ d9 ed] rfl _ _ rfl rfl (by kernel_rfl)) ?_
 refine Pl.az rfl rfl rfl rfl rfl (fun u X=>Pl.enters Tryz.func92 (by kernel_rfl) rfl u X) ?_
 refine Calls.mono (F9 _ _ (b:Int) hr1 _ rfl) ?_
 rintro e t1 ⟨rfl,OP⟩
 refine ⟨_,rfl,trivial,?_⟩
 refine Pl.aN (v:=.bool false) trivial rfl rfl rfl rfl rfl rfl (fun X=>jc (decide_eq_false auV) X) ?_
 refine Pl.aj ?_
 replace k2:=Cb.ext k2 OP
 replace k3:=Cb.ext k3 OP
 replace k4:=Cb.ext k4 OP
 replace h5:=Ib.ext h5 OP
 replace h6:=Ib.ext h6 OP
 replace hza:=Zn.below hza OP
 replace hzb:=Zn.below hzb OP
 replace Ko:=Zn.below Ko OP
 replace Kq:=Zn.below Kq OP
 replace ko:=Cb.ext ko OP
 replace hE:=hE.below OP
 replace hr0:=Zn.below hr0 OP
 replace hr1:=Zn.below hr1 OP
 repeat refine Pl.ay ?_
 refine Pl.bn rfl ?_
 repeat refine Pl.ay ?_
 refine Pl.bM ?_
 refine Pl.dG ?_
 repeat refine Pl.ay ?_
 refine Pl.ak (by kernel_rfl) ?_
 refine Pl.aN (v:=.int .i64 2) trivial rfl rfl rfl rfl rfl rfl (fun X=>nM (by decide) (by decide) (by decide) X) ?_
 refine Pl.aA trivial rfl rfl rfl rfl rfl ?_
 refine Pl.aj ?_
 refine Pl.wP ?_
 refine Pl.sI ?_
 repeat refine Pl.ay ?_
 refine Pl.ak (by kernel_rfl) ?_
 refine Pl.aN (v:=.bool false) trivial rfl rfl rfl rfl rfl rfl (fun X=>jc (by decide) X) ?_
 refine Pl.aj ?_
 repeat refine Pl.ay ?_
 refine Pl.bn rfl ?_
 repeat refine Pl.ay ?_
 refine Pl.lD ?_
 have hcm:dY (a:Int) (b:Int)<0:=by rw [← zQ,Int.sign_eq_neg_one_of_neg (by omega)];decide
 repeat refine Pl.ay ?_
 refine Pl.ak (by kernel_rfl) ?_
 refine aS trivial rfl rfl rfl rfl rfl rfl (dS _) ?_
 refine Pl.aH trivial rfl rfl rfl rfl rfl (Cb.bD ko 0 [.bool iA,.slice gT gU gV] rfl _ _ rfl rfl (by kernel_rfl)) ?_
 refine aS trivial rfl rfl rfl rfl rfl rfl (dI _) ?_
 refine Pl.aH trivial rfl rfl rfl rfl rfl (Cb.bD ko 2 [.bool eD,.slice dZ d9 ed] rfl _ _ rfl rfl (by kernel_rfl)) ?_
 refine Pl.az rfl rfl rfl rfl rfl (fun u X=>Pl.enters Tryz.func182 (by kernel_rfl) rfl u X) ?_
 refine Calls.mono (auG _ _ _ (a:Int) (b:Int) hr0 hr1 _ rfl) ?_
 rintro e s0 ⟨rfl,Xh⟩
 refine ⟨_,rfl,trivial,?_⟩
 refine Pl.aN (v:=.bool true) trivial rfl rfl rfl rfl rfl rfl (fun X=>jc (decide_eq_true hcm) X) ?_
 refine Pl.aj ?_
 replace k2:=Cb.ext k2 Xh
 replace k3:=Cb.ext k3 Xh
 replace k4:=Cb.ext k4 Xh
 replace Ko:=Zn.below Ko Xh
 replace Kq:=Zn.below Kq Xh
 replace ko:=Cb.ext ko Xh
 replace hE:=hE.below Xh
 replace hr0:=Zn.below hr0 Xh
 replace hr1:=Zn.below hr1 Xh
 repeat refine Pl.ay ?_
 repeat refine Pl.ay ?_
 refine Pl.cK rfl ?_
 repeat refine Pl.ay ?_
 refine Pl.j6 (S:=fun _=>True) fo trivial ?_
 have hD2:=Ext.drew (Ext.refl s0)
 replace k2:=Cb.ext k2 hD2
 replace k3:=Cb.ext k3 hD2
 replace k4:=Cb.ext k4 hD2
 replace Ko:=Zn.below Ko hD2
 replace Kq:=Zn.below Kq hD2
 replace ko:=Cb.ext ko hD2
 replace hE:=hE.below hD2
 replace hr0:=Zn.below hr0 hD2
 replace hr1:=Zn.below hr1 hD2
 generalize s0.drew=s1 at *
 intro _
 refine Pl.oN 4 4095 (fun l' w'=>(Cb w' No 108 [.bool eD,.slice dZ d9 ed,.bool iA,.slice gT gU gV]∧Xt [No] s1 w')∧l'=[(2,.pointer (some ⟨Ns,0,none⟩)),(3,.pointer (some ⟨Nm,0,none⟩)),(4,.pointer (some ⟨Nr,0,none⟩)),(7,.pointer (some ⟨No,0,none⟩)),(58,.agg #[.bool eD,.slice dZ d9 ed]),(60,.agg #[.bool iA,.slice gT gU gV]),(62,.agg #[.bool false,.slice none 0 0,.bool p2,.slice A2 n2 c2]),(64,.agg #[.bool p2,.slice A2 n2 c2,.bool false,.slice none 0 0])]) ?_ ?_
 rotate_left
 · intro hK
   refine Pl.aM [(true,0,0),(true,2,1),(true,4,5),(true,6,21)] 85 12 Pl.aB (by kernel_rfl) (by kernel_rfl) (by kernel_rfl) ?_
   refine aS trivial rfl rfl rfl rfl rfl rfl (dI _) ?_
   refine aS trivial rfl rfl rfl rfl rfl rfl (dS _) ?_
   refine aS trivial rfl rfl rfl rfl rfl rfl (uJ _) ?_
   refine aS trivial rfl rfl rfl rfl rfl rfl (uI _) ?_
   refine Pl.aj ?_
   refine Pl.bS [1,3,5,7] 11 (by kernel_rfl) (by kernel_rfl) (by kernel_rfl) (Pl.aC ?_ (Pl.aC ?_ (Pl.aC ?_ (Pl.aC ?_ Pl.aR))))
   · refine Pl.aH trivial rfl rfl rfl rfl rfl (Cb.bD ko 2 [.bool eD,.slice dZ d9 ed] rfl _ _ rfl rfl (by kernel_rfl)) ?_
     refine Pl.aj ?_
     refine Pl.bS [3,5,7] 10 (by kernel_rfl) (by kernel_rfl) (by kernel_rfl) (Pl.aC ?_ (Pl.aC ?_ (Pl.aC ?_ Pl.aR)))
     · refine Pl.aH trivial rfl rfl rfl rfl rfl (Cb.bD ko 0 [.bool iA,.slice gT gU gV] rfl _ _ rfl rfl (by kernel_rfl)) ?_
       refine Pl.aj ?_
       refine Pl.bS [5,7] 9 (by kernel_rfl) (by kernel_rfl) (by kernel_rfl) (Pl.aC ?_ (Pl.aC ?_ Pl.aR))
       · refine Pl.aH trivial rfl rfl rfl rfl rfl (Cb.bD k3 4 [.bool false,.slice none 0 0,.bool p2,.slice A2 n2 c2] rfl _ _ rfl rfl (by kernel_rfl)) ?_
         refine Pl.aj ?_
         refine Pl.aM [(false,7,127),(true,8,255),(false,9,511),(true,10,1023),(false,11,2047)] 4095 4 Pl.aB (by kernel_rfl) (by kernel_rfl) (by kernel_rfl) ?_
         refine Pl.aH trivial rfl rfl rfl rfl rfl (Cb.bD k3 0 [.bool p2,.slice A2 n2 c2,.bool false,.slice none 0 0] rfl _ _ rfl rfl (by kernel_rfl)) ?_
         refine aS trivial rfl rfl rfl rfl rfl rfl (dS _) ?_
         refine bG (cs':=[.bool eD,.slice dZ d9 ed,.bool eD,.slice dZ d9 ed]) ko 0 [.bool eD,.slice dZ d9 ed] rfl rfl rfl rfl rfl rfl (by kernel_rfl) (by simp) (by simp [Value.oneCell']) (aD (aD aK)) (aD aK) rfl ?_
         intro s2 xa hcs
         replace ko:=hcs
         replace k3:=xa.cb k3 (by simp;omega)
         refine aS trivial rfl rfl rfl rfl rfl rfl (dI _) ?_
         refine bG (cs':=[.bool eD,.slice dZ d9 ed,.bool iA,.slice gT gU gV]) ko 2 [.bool iA,.slice gT gU gV] rfl rfl rfl rfl rfl rfl (by kernel_rfl) (by simp) (by simp [Value.oneCell']) (aD (aD aK)) (aD aK) rfl ?_
         intro s3 xb hcs
         replace ko:=hcs
         replace k3:=xb.cb k3 (by simp;omega)
         refine Pl.aj ?_
         refine Pl.bN _ ?_ (hK _ _ ⟨⟨ko,xa.trans xb⟩,rfl⟩)
         exact (Pl.aa rfl (Pl.aa rfl (Pl.aa rfl (Pl.aa rfl (Pl.aa rfl (Pl.aa rfl (Pl.aa rfl (Pl.aa rfl Pl.aI))))))))
       · refine Pl.aH trivial rfl rfl rfl rfl rfl (Cb.bD k3 0 [.bool p2,.slice A2 n2 c2,.bool false,.slice none 0 0] rfl _ _ rfl rfl (by kernel_rfl)) ?_
         refine Pl.aj ?_
         refine Pl.aM [(true,8,223)] 479 8 Pl.aB (by kernel_rfl) (by kernel_rfl) (by kernel_rfl) ?_
         refine aS trivial rfl rfl rfl rfl rfl rfl (dS _) ?_
         refine Pl.aj ?_
         refine Pl.bS [5,9] 7 (by kernel_rfl) (by kernel_rfl) (by kernel_rfl) (Pl.aC ?_ (Pl.aC ?_ Pl.aR))
         · refine Pl.aH trivial rfl rfl rfl rfl rfl (Cb.bD k3 4 [.bool false,.slice none 0 0,.bool p2,.slice A2 n2 c2] rfl _ _ rfl rfl (by kernel_rfl)) ?_
           refine Pl.aj ?_
           refine Pl.aM [(false,9,511),(true,10,1023),(false,11,2047)] 4095 4 Pl.aB (by kernel_rfl) (by kernel_rfl) (by kernel_rfl) ?_
           refine bG (cs':=[.bool eD,.slice dZ d9 ed,.bool eD,.slice dZ d9 ed]) ko 0 [.bool eD,.slice dZ d9 ed] rfl rfl rfl rfl rfl rfl (by kernel_rfl) (by simp) (by simp [Value.oneCell']) (aD (aD aK)) (aD aK) rfl ?_
           intro s2 xa hcs
           replace ko:=hcs
           replace k3:=xa.cb k3 (by simp;omega)
           refine aS trivial rfl rfl rfl rfl rfl rfl (dI _) ?_
           refine bG (cs':=[.bool eD,.slice dZ d9 ed,.bool iA,.slice gT gU gV]) ko 2 [.bool iA,.slice gT gU gV] rfl rfl rfl rfl rfl rfl (by kernel_rfl) (by simp) (by simp [Value.oneCell']) (aD (aD aK)) (aD aK) rfl ?_
           intro s3 xb hcs
           replace ko:=hcs
           replace k3:=xb.cb k3 (by simp;omega)
           refine Pl.aj ?_
           refine Pl.bN _ ?_ (hK _ _ ⟨⟨ko,xa.trans xb⟩,rfl⟩)
           exact (Pl.aa rfl (Pl.aa rfl (Pl.aa rfl (Pl.aa rfl (Pl.aa rfl (Pl.aa rfl (Pl.aa rfl (Pl.aa rfl Pl.aI))))))))
         · refine bG (cs':=[.bool eD,.slice dZ d9 ed,.bool eD,.slice dZ d9 ed]) ko 0 [.bool eD,.slice dZ d9 ed] rfl rfl rfl rfl rfl rfl (by kernel_rfl) (by simp) (by simp [Value.oneCell']) (aD (aD aK)) (aD aK) rfl ?_
           intro s2 xa hcs
           replace ko:=hcs
           replace k3:=xa.cb k3 (by simp;omega)
           refine Pl.aj ?_
           refine Pl.aM [(true,10,991)] 2015 6 Pl.aB (by kernel_rfl) (by kernel_rfl) (by kernel_rfl) ?_
           refine aS trivial rfl rfl rfl rfl rfl rfl (dI _) ?_
           refine Pl.aj ?_
           refine Pl.bS [5,11] 5 (by kernel_rfl) (by kernel_rfl) (by kernel_rfl) (Pl.aC ?_ (Pl.aC ?_ Pl.aR))
           · refine Pl.aH trivial rfl rfl rfl rfl rfl (Cb.bD k3 4 [.bool false,.slice none 0 0,.bool p2,.slice A2 n2 c2] rfl _ _ rfl rfl (by kernel_rfl)) ?_
             refine Pl.aj ?_
             refine Pl.aM [(false,11,2047)] 4095 4 Pl.aB (by kernel_rfl) (by kernel_rfl) (by kernel_rfl) ?_
             refine bG (cs':=[.bool eD,.slice dZ d9 ed,.bool iA,.slice gT gU gV]) ko 2 [.bool iA,.slice gT gU gV] rfl rfl rfl rfl rfl rfl (by kernel_rfl) (by simp) (by simp [Value.oneCell']) (aD (aD aK)) (aD aK) rfl ?_
             intro s3 xb hcs
             replace ko:=hcs
             replace k3:=xb.cb k3 (by simp;omega)
             refine Pl.aj ?_
             refine Pl.bN _ ?_ (hK _ _ ⟨⟨ko,xa.trans xb⟩,rfl⟩)
             exact (Pl.aa rfl (Pl.aa rfl (Pl.aa rfl (Pl.aa rfl (Pl.aa rfl (Pl.aa rfl (Pl.aa rfl (Pl.aa rfl Pl.aI))))))))
           · refine bG (cs':=[.bool eD,.slice dZ d9 ed,.bool iA,.slice gT gU gV]) ko 2 [.bool iA,.slice gT gU gV] rfl rfl rfl rfl rfl rfl (by kernel_rfl) (by simp) (by simp [Value.oneCell']) (aD (aD aK)) (aD aK) rfl ?_
             intro s3 xb hcs
             replace ko:=hcs
             replace k3:=xb.cb k3 (by simp;omega)
             refine Pl.aj ?_
             refine Pl.aM [(false,5,4063)] 4095 4 Pl.aB (by kernel_rfl) (by kernel_rfl) (by kernel_rfl) ?_
             refine Pl.aH trivial rfl rfl rfl rfl rfl (Cb.bD k3 4 [.bool false,.slice none 0 0,.bool p2,.slice A2 n2 c2] rfl _ _ rfl rfl (by kernel_rfl)) ?_
             refine Pl.aj ?_
             refine Pl.bN _ ?_ (hK _ _ ⟨⟨ko,xa.trans xb⟩,rfl⟩)
             exact (Pl.aa rfl (Pl.aa rfl (Pl.aa rfl (Pl.aa rfl (Pl.aa rfl (Pl.aa rfl (Pl.aa rfl (Pl.aa rfl Pl.aI))))))))
     · refine Pl.aH trivial rfl rfl rfl rfl rfl (Cb.bD k3 4 [.bool false,.slice none 0 0,.bool p2,.slice A2 n2 c2] rfl _ _ rfl rfl (by kernel_rfl)) ?_
       refine Pl.aj ?_
       refine Pl.bS [3,7] 9 (by kernel_rfl) (by kernel_rfl) (by kernel_rfl) (Pl.aC ?_ (Pl.aC ?_ Pl.aR))
       · refine Pl.aH trivial rfl rfl rfl rfl rfl (Cb.bD ko 0 [.bool iA,.slice gT gU gV] rfl _ _ rfl rfl (by kernel_rfl)) ?_
         refine Pl.aj ?_
         refine Pl.aM [(false,7,127),(true,8,255),(false,9,511),(true,10,1023),(false,11,2047)] 4095 4 Pl.aB (by kernel_rfl) (by kernel_rfl) (by kernel_rfl) ?_
         refine Pl.aH trivial rfl rfl rfl rfl rfl (Cb.bD k3 0 [.bool p2,.slice A2 n2 c2,.bool false,.slice none 0 0] rfl _ _ rfl rfl (by kernel_rfl)) ?_
         refine aS trivial rfl rfl rfl rfl rfl rfl (dS _) ?_
         refine bG (cs':=[.bool eD,.slice dZ d9 ed,.bool eD,.slice dZ d9 ed]) ko 0 [.bool eD,.slice dZ d9 ed] rfl rfl rfl rfl rfl rfl (by kernel_rfl) (by simp) (by simp [Value.oneCell']) (aD (aD aK)) (aD aK) rfl ?_
         intro s2 xa hcs
         replace ko:=hcs
         replace k3:=xa.cb k3 (by simp;omega)
         refine aS trivial rfl rfl rfl rfl rfl rfl (dI _) ?_
         refine bG (cs':=[.bool eD,.slice dZ d9 ed,.bool iA,.slice gT gU gV]) ko 2 [.bool iA,.slice gT gU gV] rfl rfl rfl rfl rfl rfl (by kernel_rfl) (by simp) (by simp [Value.oneCell']) (aD (aD aK)) (aD aK) rfl ?_
         intro s3 xb hcs
         replace ko:=hcs
         replace k3:=xb.cb k3 (by simp;omega)
         refine Pl.aj ?_
         refine Pl.bN _ ?_ (hK _ _ ⟨⟨ko,xa.trans xb⟩,rfl⟩)
         exact (Pl.aa rfl (Pl.aa rfl (Pl.aa rfl (Pl.aa rfl (Pl.aa rfl (Pl.aa rfl (Pl.aa rfl (Pl.aa rfl Pl.aI))))))))
       · refine Pl.aH trivial rfl rfl rfl rfl rfl (Cb.bD k3 0 [.bool p2,.slice A2 n2 c2,.bool false,.slice none 0 0] rfl _ _ rfl rfl (by kernel_rfl)) ?_
         refine Pl.aj ?_
         refine Pl.aM [(false,3,247),(true,8,255),(false,9,511),(true,10,1023),(false,11,2047)] 4095 4 Pl.aB (by kernel_rfl) (by kernel_rfl) (by kernel_rfl) ?_
         refine Pl.aH trivial rfl rfl rfl rfl rfl (Cb.bD ko 0 [.bool iA,.slice gT gU gV] rfl _ _ rfl rfl (by kernel_rfl)) ?_
         refine aS trivial rfl rfl rfl rfl rfl rfl (dS _) ?_
         refine bG (cs':=[.bool eD,.slice dZ d9 ed,.bool eD,.slice dZ d9 ed]) ko 0 [.bool eD,.slice dZ d9 ed] rfl rfl rfl rfl rfl rfl (by kernel_rfl) (by simp) (by simp [Value.oneCell']) (aD (aD aK)) (aD aK) rfl ?_
         intro s2 xa hcs
         replace ko:=hcs
         replace k3:=xa.cb k3 (by simp;omega)
         refine aS trivial rfl rfl rfl rfl rfl rfl (dI _) ?_
         refine bG (cs':=[.bool eD,.slice dZ d9 ed,.bool iA,.slice gT gU gV]) ko 2 [.bool iA,.slice gT gU gV] rfl rfl rfl rfl rfl rfl (by kernel_rfl) (by simp) (by simp [Value.oneCell']) (aD (aD aK)) (aD aK) rfl ?_
         intro s3 xb hcs
         replace ko:=hcs
         replace k3:=xb.cb k3 (by simp;omega)
         refine Pl.aj ?_
         refine Pl.bN _ ?_ (hK _ _ ⟨⟨ko,xa.trans xb⟩,rfl⟩)
         exact (Pl.aa rfl (Pl.aa rfl (Pl.aa rfl (Pl.aa rfl (Pl.aa rfl (Pl.aa rfl (Pl.aa rfl (Pl.aa rfl Pl.aI))))))))
     · refine Pl.aH trivial rfl rfl rfl rfl rfl (Cb.bD k3 0 [.bool p2,.slice A2 n2 c2,.bool false,.slice none 0 0] rfl _ _ rfl rfl (by kernel_rfl)) ?_
       refine Pl.aj ?_
       refine Pl.bS [3,5] 9 (by kernel_rfl) (by kernel_rfl) (by kernel_rfl) (Pl.aC ?_ (Pl.aC ?_ Pl.aR))
       · refine Pl.aH trivial rfl rfl rfl rfl rfl (Cb.bD ko 0 [.bool iA,.slice gT gU gV] rfl _ _ rfl rfl (by kernel_rfl)) ?_
         refine Pl.aj ?_
         refine Pl.aM [(true,8,223)] 479 8 Pl.aB (by kernel_rfl) (by kernel_rfl) (by kernel_rfl) ?_
         refine aS trivial rfl rfl rfl rfl rfl rfl (dS _) ?_
         refine Pl.aj ?_
         refine Pl.bS [5,9] 7 (by kernel_rfl) (by kernel_rfl) (by kernel_rfl) (Pl.aC ?_ (Pl.aC ?_ Pl.aR))
         · refine Pl.aH trivial rfl rfl rfl rfl rfl (Cb.bD k3 4 [.bool false,.slice none 0 0,.bool p2,.slice A2 n2 c2] rfl _ _ rfl rfl (by kernel_rfl)) ?_
           refine Pl.aj ?_
           refine Pl.aM [(false,9,511),(true,10,1023),(false,11,2047)] 4095 4 Pl.aB (by kernel_rfl) (by kernel_rfl) (by kernel_rfl) ?_
           refine bG (cs':=[.bool eD,.slice dZ d9 ed,.bool eD,.slice dZ d9 ed]) ko 0 [.bool eD,.slice dZ d9 ed] rfl rfl rfl rfl rfl rfl (by kernel_rfl) (by simp) (by simp [Value.oneCell']) (aD (aD aK)) (aD aK) rfl ?_
           intro s2 xa hcs
           replace ko:=hcs
           replace k3:=xa.cb k3 (by simp;omega)
           refine aS trivial rfl rfl rfl rfl rfl rfl (dI _) ?_
           refine bG (cs':=[.bool eD,.slice dZ d9 ed,.bool iA,.slice gT gU gV]) ko 2 [.bool iA,.slice gT gU gV] rfl rfl rfl rfl rfl rfl (by kernel_rfl) (by simp) (by simp [Value.oneCell']) (aD (aD aK)) (aD aK) rfl ?_
           intro s3 xb hcs
           replace ko:=hcs
           replace k3:=xb.cb k3 (by simp;omega)
           refine Pl.aj ?_
           refine Pl.bN _ ?_ (hK _ _ ⟨⟨ko,xa.trans xb⟩,rfl⟩)
           exact (Pl.aa rfl (Pl.aa rfl (Pl.aa rfl (Pl.aa rfl (Pl.aa rfl (Pl.aa rfl (Pl.aa rfl (Pl.aa rfl Pl.aI))))))))
         · refine bG (cs':=[.bool eD,.slice dZ d9 ed,.bool eD,.slice dZ d9 ed]) ko 0 [.bool eD,.slice dZ d9 ed] rfl rfl rfl rfl rfl rfl (by kernel_rfl) (by simp) (by simp [Value.oneCell']) (aD (aD aK)) (aD aK) rfl ?_
           intro s2 xa hcs
           replace ko:=hcs
           replace k3:=xa.cb k3 (by simp;omega)
           refine Pl.aj ?_
           refine Pl.aM [(true,10,991)] 2015 6 Pl.aB (by kernel_rfl) (by kernel_rfl) (by kernel_rfl) ?_
           refine aS trivial rfl rfl rfl rfl rfl rfl (dI _) ?_
           refine Pl.aj ?_
           refine Pl.bS [5,11] 5 (by kernel_rfl) (by kernel_rfl) (by kernel_rfl) (Pl.aC ?_ (Pl.aC ?_ Pl.aR))
           · refine Pl.aH trivial rfl rfl rfl rfl rfl (Cb.bD k3 4 [.bool false,.slice none 0 0,.bool p2,.slice A2 n2 c2] rfl _ _ rfl rfl (by kernel_rfl)) ?_
             refine Pl.aj ?_
             refine Pl.aM [(false,11,2047)] 4095 4 Pl.aB (by kernel_rfl) (by kernel_rfl) (by kernel_rfl) ?_
             refine bG (cs':=[.bool eD,.slice dZ d9 ed,.bool iA,.slice gT gU gV]) ko 2 [.bool iA,.slice gT gU gV] rfl rfl rfl rfl rfl rfl (by kernel_rfl) (by simp) (by simp [Value.oneCell']) (aD (aD aK)) (aD aK) rfl ?_
             intro s3 xb hcs
             replace ko:=hcs
             replace k3:=xb.cb k3 (by simp;omega)
             refine Pl.aj ?_
             refine Pl.bN _ ?_ (hK _ _ ⟨⟨ko,xa.trans xb⟩,rfl⟩)
             exact (Pl.aa rfl (Pl.aa rfl (Pl.aa rfl (Pl.aa rfl (Pl.aa rfl (Pl.aa rfl (Pl.aa rfl (Pl.aa rfl Pl.aI))))))))
           · refine bG (cs':=[.bool eD,.slice dZ d9 ed,.bool iA,.slice gT gU gV]) ko 2 [.bool iA,.slice gT gU gV] rfl rfl rfl rfl rfl rfl (by kernel_rfl) (by simp) (by simp [Value.oneCell']) (aD (aD aK)) (aD aK) rfl ?_
             intro s3 xb hcs
             replace ko:=hcs
             replace k3:=xb.cb k3 (by simp;omega)
             refine Pl.aj ?_
             refine Pl.aM [(false,5,4063)] 4095 4 Pl.aB (by kernel_rfl) (by kernel_rfl) (by kernel_rfl) ?_
             refine Pl.aH trivial rfl rfl rfl rfl rfl (Cb.bD k3 4 [.bool false,.slice none 0 0,.bool p2,.slice A2 n2 c2] rfl _ _ rfl rfl (by kernel_rfl)) ?_
             refine Pl.aj ?_
             refine Pl.bN _ ?_ (hK _ _ ⟨⟨ko,xa.trans xb⟩,rfl⟩)
             exact (Pl.aa rfl (Pl.aa rfl (Pl.aa rfl (Pl.aa rfl (Pl.aa rfl (Pl.aa rfl (Pl.aa rfl (Pl.aa rfl Pl.aI))))))))
       · refine Pl.aH trivial rfl rfl rfl rfl rfl (Cb.bD k3 4 [.bool false,.slice none 0 0,.bool p2,.slice A2 n2 c2] rfl _ _ rfl rfl (by kernel_rfl)) ?_
         refine Pl.aj ?_
         refine Pl.aM [(false,3,247),(true,8,255),(false,9,511),(true,10,1023),(false,11,2047)] 4095 4 Pl.aB (by kernel_rfl) (by kernel_rfl) (by kernel_rfl) ?_
         refine Pl.aH trivial rfl rfl rfl rfl rfl (Cb.bD ko 0 [.bool iA,.slice gT gU gV] rfl _ _ rfl rfl (by kernel_rfl)) ?_
         refine aS trivial rfl rfl rfl rfl rfl rfl (dS _) ?_
         refine bG (cs':=[.bool eD,.slice dZ d9 ed,.bool eD,.slice dZ d9 ed]) ko 0 [.bool eD,.slice dZ d9 ed] rfl rfl rfl rfl rfl rfl (by kernel_rfl) (by simp) (by simp [Value.oneCell']) (aD (aD aK)) (aD aK) rfl ?_
         intro s2 xa hcs
         replace ko:=hcs
         replace k3:=xa.cb k3 (by simp;omega)
         refine aS trivial rfl rfl rfl rfl rfl rfl (dI _) ?_
         refine bG (cs':=[.bool eD,.slice dZ d9 ed,.bool iA,.slice gT gU gV]) ko 2 [.bool iA,.slice gT gU gV] rfl rfl rfl rfl rfl rfl (by kernel_rfl) (by simp) (by simp [Value.oneCell']) (aD (aD aK)) (aD aK) rfl ?_
         intro s3 xb hcs
         replace ko:=hcs
         replace k3:=xb.cb k3 (by simp;omega)
         refine Pl.aj ?_
         refine Pl.bN _ ?_ (hK _ _ ⟨⟨ko,xa.trans xb⟩,rfl⟩)
         exact (Pl.aa rfl (Pl.aa rfl (Pl.aa rfl (Pl.aa rfl (Pl.aa rfl (Pl.aa rfl (Pl.aa rfl (Pl.aa rfl Pl.aI))))))))
   · refine Pl.aH trivial rfl rfl rfl rfl rfl (Cb.bD ko 0 [.bool iA,.slice gT gU gV] rfl _ _ rfl rfl (by kernel_rfl)) ?_
     refine Pl.aj ?_
     refine Pl.bS [1,5,7] 10 (by kernel_rfl) (by kernel_rfl) (by kernel_rfl) (Pl.aC ?_ (Pl.aC ?_ (Pl.aC ?_ Pl.aR)))
     · refine Pl.aH trivial rfl rfl rfl rfl rfl (Cb.bD ko 2 [.bool eD,.slice dZ d9 ed] rfl _ _ rfl rfl (by kernel_rfl)) ?_
       refine Pl.aj ?_
       refine Pl.bS [5,7] 9 (by kernel_rfl) (by kernel_rfl) (by kernel_rfl) (Pl.aC ?_ (Pl.aC ?_ Pl.aR))
       · refine Pl.aH trivial rfl rfl rfl rfl rfl (Cb.bD k3 4 [.bool false,.slice none 0 0,.bool p2,.slice A2 n2 c2] rfl _ _ rfl rfl (by kernel_rfl)) ?_
         refine Pl.aj ?_
         refine Pl.aM [(false,7,127),(true,8,255),(false,9,511),(true,10,1023),(false,11,2047)] 4095 4 Pl.aB (by kernel_rfl) (by kernel_rfl) (by kernel_rfl) ?_
         refine Pl.aH trivial rfl rfl rfl rfl rfl (Cb.bD k3 0 [.bool p2,.slice A2 n2 c2,.bool false,.slice none 0 0] rfl _ _ rfl rfl (by kernel_rfl)) ?_
         refine aS trivial rfl rfl rfl rfl rfl rfl (dS _) ?_
         refine bG (cs':=[.bool eD,.slice dZ d9 ed,.bool eD,.slice dZ d9 ed]) ko 0 [.bool eD,.slice dZ d9 ed] rfl rfl rfl rfl rfl rfl (by kernel_rfl) (by simp) (by simp [Value.oneCell']) (aD (aD aK)) (aD aK) rfl ?_
         intro s2 xa hcs
         replace ko:=hcs
         replace k3:=xa.cb k3 (by simp;omega)
         refine aS trivial rfl rfl rfl rfl rfl rfl (dI _) ?_
         refine bG (cs':=[.bool eD,.slice dZ d9 ed,.bool iA,.slice gT gU gV]) ko 2 [.bool iA,.slice gT gU gV] rfl rfl rfl rfl rfl rfl (by kernel_rfl) (by simp) (by simp [Value.oneCell']) (aD (aD aK)) (aD aK) rfl ?_
         intro s3 xb hcs
         replace ko:=hcs
         replace k3:=xb.cb k3 (by simp;omega)
         refine Pl.aj ?_
         refine Pl.bN _ ?_ (hK _ _ ⟨⟨ko,xa.trans xb⟩,rfl⟩)
         exact (Pl.aa rfl (Pl.aa rfl (Pl.aa rfl (Pl.aa rfl (Pl.aa rfl (Pl.aa rfl (Pl.aa rfl (Pl.aa rfl Pl.aI))))))))
       · refine Pl.aH trivial rfl rfl rfl rfl rfl (Cb.bD k3 0 [.bool p2,.slice A2 n2 c2,.bool false,.slice none 0 0] rfl _ _ rfl rfl (by kernel_rfl)) ?_
         refine Pl.aj ?_
         refine Pl.aM [(true,8,223)] 479 8 Pl.aB (by kernel_rfl) (by kernel_rfl) (by kernel_rfl) ?_
         refine aS trivial rfl rfl rfl rfl rfl rfl (dS _) ?_
         refine Pl.aj ?_
         refine Pl.bS [5,9] 7 (by kernel_rfl) (by kernel_rfl) (by kernel_rfl) (Pl.aC ?_ (Pl.aC ?_ Pl.aR))
         · refine Pl.aH trivial rfl rfl rfl rfl rfl (Cb.bD k3 4 [.bool false,.slice none 0 0,.bool p2,.slice A2 n2 c2] rfl _ _ rfl rfl (by kernel_rfl)) ?_
           refine Pl.aj ?_
           refine Pl.aM [(false,9,511),(true,10,1023),(false,11,2047)] 4095 4 Pl.aB (by kernel_rfl) (by kernel_rfl) (by kernel_rfl) ?_
           refine bG (cs':=[.bool eD,.slice dZ d9 ed,.bool eD,.slice dZ d9 ed]) ko 0 [.bool eD,.slice dZ d9 ed] rfl rfl rfl rfl rfl rfl (by kernel_rfl) (by simp) (by simp [Value.oneCell']) (aD (aD aK)) (aD aK) rfl ?_
           intro s2 xa hcs
           replace ko:=hcs
           replace k3:=xa.cb k3 (by simp;omega)
           refine aS trivial rfl rfl rfl rfl rfl rfl (dI _) ?_
           refine bG (cs':=[.bool eD,.slice dZ d9 ed,.bool iA,.slice gT gU gV]) ko 2 [.bool iA,.slice gT gU gV] rfl rfl rfl rfl rfl rfl (by kernel_rfl) (by simp) (by simp [Value.oneCell']) (aD (aD aK)) (aD aK) rfl ?_
           intro s3 xb hcs
           replace ko:=hcs
           replace k3:=xb.cb k3 (by simp;omega)
           refine Pl.aj ?_
           refine Pl.bN _ ?_ (hK _ _ ⟨⟨ko,xa.trans xb⟩,rfl⟩)
           exact (Pl.aa rfl (Pl.aa rfl (Pl.aa rfl (Pl.aa rfl (Pl.aa rfl (Pl.aa rfl (Pl.aa rfl (Pl.aa rfl Pl.aI))))))))
         · refine bG (cs':=[.bool eD,.slice dZ d9 ed,.bool eD,.slice dZ d9 ed]) ko 0 [.bool eD,.slice dZ d9 ed] rfl rfl rfl rfl rfl rfl (by kernel_rfl) (by simp) (by simp [Value.oneCell']) (aD (aD aK)) (aD aK) rfl ?_
           intro s2 xa hcs
           replace ko:=hcs
           replace k3:=xa.cb k3 (by simp;omega)
           refine Pl.aj ?_
           refine Pl.aM [(true,10,991)] 2015 6 Pl.aB (by kernel_rfl) (by kernel_rfl) (by kernel_rfl) ?_
           refine aS trivial rfl rfl rfl rfl rfl rfl (dI _) ?_
           refine Pl.aj ?_
           refine Pl.bS [5,11] 5 (by kernel_rfl) (by kernel_rfl) (by kernel_rfl) (Pl.aC ?_ (Pl.aC ?_ Pl.aR))
           · refine Pl.aH trivial rfl rfl rfl rfl rfl (Cb.bD k3 4 [.bool false,.slice none 0 0,.bool p2,.slice A2 n2 c2] rfl _ _ rfl rfl (by kernel_rfl)) ?_
             refine Pl.aj ?_
             refine Pl.aM [(false,11,2047)] 4095 4 Pl.aB (by kernel_rfl) (by kernel_rfl) (by kernel_rfl) ?_
             refine bG (cs':=[.bool eD,.slice dZ d9 ed,.bool iA,.slice gT gU gV]) ko 2 [.bool iA,.slice gT gU gV] rfl rfl rfl rfl rfl rfl (by kernel_rfl) (by simp) (by simp [Value.oneCell']) (aD (aD aK)) (aD aK) rfl ?_
             intro s3 xb hcs
             replace ko:=hcs
             replace k3:=xb.cb k3 (by simp;omega)
             refine Pl.aj ?_
             refine Pl.bN _ ?_ (hK _ _ ⟨⟨ko,xa.trans xb⟩,rfl⟩)
             exact (Pl.aa rfl (Pl.aa rfl (Pl.aa rfl (Pl.aa rfl (Pl.aa rfl (Pl.aa rfl (Pl.aa rfl (Pl.aa rfl Pl.aI))))))))
           · refine bG (cs':=[.bool eD,.slice dZ d9 ed,.bool iA,.slice gT gU gV]) ko 2 [.bool iA,.slice gT gU gV] rfl rfl rfl rfl rfl rfl (by kernel_rfl) (by simp) (by simp [Value.oneCell']) (aD (aD aK)) (aD aK) rfl ?_
             intro s3 xb hcs
             replace ko:=hcs
             replace k3:=xb.cb k3 (by simp;omega)
             refine Pl.aj ?_
             refine Pl.aM [(false,5,4063)] 4095 4 Pl.aB (by kernel_rfl) (by kernel_rfl) (by kernel_rfl) ?_
             refine Pl.aH trivial rfl rfl rfl rfl rfl (Cb.bD k3 4 [.bool false,.slice none 0 0,.bool p2,.slice A2 n2 c2] rfl _ _ rfl rfl (by kernel_rfl)) ?_
             refine Pl.aj ?_
             refine Pl.bN _ ?_ (hK _ _ ⟨⟨ko,xa.trans xb⟩,rfl⟩)
             exact (Pl.aa rfl (Pl.aa rfl (Pl.aa rfl (Pl.aa rfl (Pl.aa rfl (Pl.aa rfl (Pl.aa rfl (Pl.aa rfl Pl.aI))))))))
     · refine Pl.aH trivial rfl rfl rfl rfl rfl (Cb.bD k3 4 [.bool false,.slice none 0 0,.bool p2,.slice A2 n2 c2] rfl _ _ rfl rfl (by kernel_rfl)) ?_
       refine Pl.aj ?_
       refine Pl.bS [1,7] 9 (by kernel_rfl) (by kernel_rfl) (by kernel_rfl) (Pl.aC ?_ (Pl.aC ?_ Pl.aR))
       · refine Pl.aH trivial rfl rfl rfl rfl rfl (Cb.bD ko 2 [.bool eD,.slice dZ d9 ed] rfl _ _ rfl rfl (by kernel_rfl)) ?_
         refine Pl.aj ?_
         refine Pl.aM [(false,7,127),(true,8,255),(false,9,511),(true,10,1023),(false,11,2047)] 4095 4 Pl.aB (by kernel_rfl) (by kernel_rfl) (by kernel_rfl) ?_
         refine Pl.aH trivial rfl rfl rfl rfl rfl (Cb.bD k3 0 [.bool p2,.slice A2 n2 c2,.bool false,.slice none 0 0] rfl _ _ rfl rfl (by kernel_rfl)) ?_
         refine aS trivial rfl rfl rfl rfl rfl rfl (dS _) ?_
         refine bG (cs':=[.bool eD,.slice dZ d9 ed,.bool eD,.slice dZ d9 ed]) ko 0 [.bool eD,.slice dZ d9 ed] rfl rfl rfl rfl rfl rfl (by kernel_rfl) (by simp) (by simp [Value.oneCell']) (aD (aD aK)) (aD aK) rfl ?_
         intro s2 xa hcs
         replace ko:=hcs
         replace k3:=xa.cb k3 (by simp;omega)
         refine aS trivial rfl rfl rfl rfl rfl rfl (dI _) ?_
         refine bG (cs':=[.bool eD,.slice dZ d9 ed,.bool iA,.slice gT gU gV]) ko 2 [.bool iA,.slice gT gU gV] rfl rfl rfl rfl rfl rfl (by kernel_rfl) (by simp) (by simp [Value.oneCell']) (aD (aD aK)) (aD aK) rfl ?_
         intro s3 xb hcs
         replace ko:=hcs
         replace k3:=xb.cb k3 (by simp;omega)
         refine Pl.aj ?_
         refine Pl.bN _ ?_ (hK _ _ ⟨⟨ko,xa.trans xb⟩,rfl⟩)
         exact (Pl.aa rfl (Pl.aa rfl (Pl.aa rfl (Pl.aa rfl (Pl.aa rfl (Pl.aa rfl (Pl.aa rfl (Pl.aa rfl Pl.aI))))))))
       · refine Pl.aH trivial rfl rfl rfl rfl rfl (Cb.bD k3 0 [.bool p2,.slice A2 n2 c2,.bool false,.slice none 0 0] rfl _ _ rfl rfl (by kernel_rfl)) ?_
         refine Pl.aj ?_
         refine Pl.aM [(false,1,253),(true,8,255),(false,9,511),(true,10,1023),(false,11,2047)] 4095 4 Pl.aB (by kernel_rfl) (by kernel_rfl) (by kernel_rfl) ?_
         refine Pl.aH trivial rfl rfl rfl rfl rfl (Cb.bD ko 2 [.bool eD,.slice dZ d9 ed] rfl _ _ rfl rfl (by kernel_rfl)) ?_
         refine aS trivial rfl rfl rfl rfl rfl rfl (dS _) ?_
         refine bG (cs':=[.bool eD,.slice dZ d9 ed,.bool eD,.slice dZ d9 ed]) ko 0 [.bool eD,.slice dZ d9 ed] rfl rfl rfl rfl rfl rfl (by kernel_rfl) (by simp) (by simp [Value.oneCell']) (aD (aD aK)) (aD aK) rfl ?_
         intro s2 xa hcs
         replace ko:=hcs
         replace k3:=xa.cb k3 (by simp;omega)
         refine aS trivial rfl rfl rfl rfl rfl rfl (dI _) ?_
         refine bG (cs':=[.bool eD,.slice dZ d9 ed,.bool iA,.slice gT gU gV]) ko 2 [.bool iA,.slice gT gU gV] rfl rfl rfl rfl rfl rfl (by kernel_rfl) (by simp) (by simp [Value.oneCell']) (aD (aD aK)) (aD aK) rfl ?_
         intro s3 xb hcs
         replace ko:=hcs
         replace k3:=xb.cb k3 (by simp;omega)
         refine Pl.aj ?_
         refine Pl.bN _ ?_ (hK _ _ ⟨⟨ko,xa.trans xb⟩,rfl⟩)
         exact (Pl.aa rfl (Pl.aa rfl (Pl.aa rfl (Pl.aa rfl (Pl.aa rfl (Pl.aa rfl (Pl.aa rfl (Pl.aa rfl Pl.aI))))))))
     · refine Pl.aH trivial rfl rfl rfl rfl rfl (Cb.bD k3 0 [.bool p2,.slice A2 n2 c2,.bool false,.slice none 0 0] rfl _ _ rfl rfl (by kernel_rfl)) ?_
       refine Pl.aj ?_
       refine Pl.bS [1,5] 9 (by kernel_rfl) (by kernel_rfl) (by kernel_rfl) (Pl.aC ?_ (Pl.aC ?_ Pl.aR))
       · refine Pl.aH trivial rfl rfl rfl rfl rfl (Cb.bD ko 2 [.bool eD,.slice dZ d9 ed] rfl _ _ rfl rfl (by kernel_rfl)) ?_
         refine Pl.aj ?_
         refine Pl.aM [(true,8,223)] 479 8 Pl.aB (by kernel_rfl) (by kernel_rfl) (by kernel_rfl) ?_
         refine aS trivial rfl rfl rfl rfl rfl rfl (dS _) ?_
         refine Pl.aj ?_
         refine Pl.bS [5,9] 7 (by kernel_rfl) (by kernel_rfl) (by kernel_rfl) (Pl.aC ?_ (Pl.aC ?_ Pl.aR))
         · refine Pl.aH trivial rfl rfl rfl rfl rfl (Cb.bD k3 4 [.bool false,.slice none 0 0,.bool p2,.slice A2 n2 c2] rfl _ _ rfl rfl (by kernel_rfl)) ?_
           refine Pl.aj ?_
           refine Pl.aM [(false,9,511),(true,10,1023),(false,11,2047)] 4095 4 Pl.aB (by kernel_rfl) (by kernel_rfl) (by kernel_rfl) ?_
           refine bG (cs':=[.bool eD,.slice dZ d9 ed,.bool eD,.slice dZ d9 ed]) ko 0 [.bool eD,.slice dZ d9 ed] rfl rfl rfl rfl rfl rfl (by kernel_rfl) (by simp) (by simp [Value.oneCell']) (aD (aD aK)) (aD aK) rfl ?_
           intro s2 xa hcs
           replace ko:=hcs
           replace k3:=xa.cb k3 (by simp;omega)
           refine aS trivial rfl rfl rfl rfl rfl rfl (dI _) ?_
           refine bG (cs':=[.bool eD,.slice dZ d9 ed,.bool iA,.slice gT gU gV]) ko 2 [.bool iA,.slice gT gU gV] rfl rfl rfl rfl rfl rfl (by kernel_rfl) (by simp) (by simp [Value.oneCell']) (aD (aD aK)) (aD aK) rfl ?_
           intro s3 xb hcs
           replace ko:=hcs
           replace k3:=xb.cb k3 (by simp;omega)
           refine Pl.aj ?_
           refine Pl.bN _ ?_ (hK _ _ ⟨⟨ko,xa.trans xb⟩,rfl⟩)
           exact (Pl.aa rfl (Pl.aa rfl (Pl.aa rfl (Pl.aa rfl (Pl.aa rfl (Pl.aa rfl (Pl.aa rfl (Pl.aa rfl Pl.aI))))))))
         · refine bG (cs':=[.bool eD,.slice dZ d9 ed,.bool eD,.slice dZ d9 ed]) ko 0 [.bool eD,.slice dZ d9 ed] rfl rfl rfl rfl rfl rfl (by kernel_rfl) (by simp) (by simp [Value.oneCell']) (aD (aD aK)) (aD aK) rfl ?_
           intro s2 xa hcs
           replace ko:=hcs
           replace k3:=xa.cb k3 (by simp;omega)
           refine Pl.aj ?_
           refine Pl.aM [(true,10,991)] 2015 6 Pl.aB (by kernel_rfl) (by kernel_rfl) (by kernel_rfl) ?_
           refine aS trivial rfl rfl rfl rfl rfl rfl (dI _) ?_
           refine Pl.aj ?_
           refine Pl.bS [5,11] 5 (by kernel_rfl) (by kernel_rfl) (by kernel_rfl) (Pl.aC ?_ (Pl.aC ?_ Pl.aR))
           · refine Pl.aH trivial rfl rfl rfl rfl rfl (Cb.bD k3 4 [.bool false,.slice none 0 0,.bool p2,.slice A2 n2 c2] rfl _ _ rfl rfl (by kernel_rfl)) ?_
             refine Pl.aj ?_
             refine Pl.aM [(false,11,2047)] 4095 4 Pl.aB (by kernel_rfl) (by kernel_rfl) (by kernel_rfl) ?_
             refine bG (cs':=[.bool eD,.slice dZ d9 ed,.bool iA,.slice gT gU gV]) ko 2 [.bool iA,.slice gT gU gV] rfl rfl rfl rfl rfl rfl (by kernel_rfl) (by simp) (by simp [Value.oneCell']) (aD (aD aK)) (aD aK) rfl ?_
             intro s3 xb hcs
             replace ko:=hcs
             replace k3:=xb.cb k3 (by simp;omega)
             refine Pl.aj ?_
             refine Pl.bN _ ?_ (hK _ _ ⟨⟨ko,xa.trans xb⟩,rfl⟩)
             exact (Pl.aa rfl (Pl.aa rfl (Pl.aa rfl (Pl.aa rfl (Pl.aa rfl (Pl.aa rfl (Pl.aa rfl (Pl.aa rfl Pl.aI))))))))
           · refine bG (cs':=[.bool eD,.slice dZ d9 ed,.bool iA,.slice gT gU gV]) ko 2 [.bool iA,.slice gT gU gV] rfl rfl rfl rfl rfl rfl (by kernel_rfl) (by simp) (by simp [Value.oneCell']) (aD (aD aK)) (aD aK) rfl ?_
             intro s3 xb hcs
             replace ko:=hcs
             replace k3:=xb.cb k3 (by simp;omega)
             refine Pl.aj ?_
             refine Pl.aM [(false,5,4063)] 4095 4 Pl.aB (by kernel_rfl) (by kernel_rfl) (by kernel_rfl) ?_
             refine Pl.aH trivial rfl rfl rfl rfl rfl (Cb.bD k3 4 [.bool false,.slice none 0 0,.bool p2,.slice A2 n2 c2] rfl _ _ rfl rfl (by kernel_rfl)) ?_
             refine Pl.aj ?_
             refine Pl.bN _ ?_ (hK _ _ ⟨⟨ko,xa.trans xb⟩,rfl⟩)
             exact (Pl.aa rfl (Pl.aa rfl (Pl.aa rfl (Pl.aa rfl (Pl.aa rfl (Pl.aa rfl (Pl.aa rfl (Pl.aa rfl Pl.aI))))))))
       · refine Pl.aH trivial rfl rfl rfl rfl rfl (Cb.bD k3 4 [.bool false,.slice none 0 0,.bool p2,.slice A2 n2 c2] rfl _ _ rfl rfl (by kernel_rfl)) ?_
         refine Pl.aj ?_
         refine Pl.aM [(false,1,253),(true,8,255),(false,9,511),(true,10,1023),(false,11,2047)] 4095 4 Pl.aB (by kernel_rfl) (by kernel_rfl) (by kernel_rfl) ?_
         refine Pl.aH trivial rfl rfl rfl rfl rfl (Cb.bD ko 2 [.bool eD,.slice dZ d9 ed] rfl _ _ rfl rfl (by kernel_rfl)) ?_
         refine aS trivial rfl rfl rfl rfl rfl rfl (dS _) ?_
         refine bG (cs':=[.bool eD,.slice dZ d9 ed,.bool eD,.slice dZ d9 ed]) ko 0 [.bool eD,.slice dZ d9 ed] rfl rfl rfl rfl rfl rfl (by kernel_rfl) (by simp) (by simp [Value.oneCell']) (aD (aD aK)) (aD aK) rfl ?_
         intro s2 xa hcs
         replace ko:=hcs
         replace k3:=xa.cb k3 (by simp;omega)
         refine aS trivial rfl rfl rfl rfl rfl rfl (dI _) ?_
         refine bG (cs':=[.bool eD,.slice dZ d9 ed,.bool iA,.slice gT gU gV]) ko 2 [.bool iA,.slice gT gU gV] rfl rfl rfl rfl rfl rfl (by kernel_rfl) (by simp) (by simp [Value.oneCell']) (aD (aD aK)) (aD aK) rfl ?_
         intro s3 xb hcs
         replace ko:=hcs
         replace k3:=xb.cb k3 (by simp;omega)
         refine Pl.aj ?_
         refine Pl.bN _ ?_ (hK _ _ ⟨⟨ko,xa.trans xb⟩,rfl⟩)
         exact (Pl.aa rfl (Pl.aa rfl (Pl.aa rfl (Pl.aa rfl (Pl.aa rfl (Pl.aa rfl (Pl.aa rfl (Pl.aa rfl Pl.aI))))))))
   · refine Pl.aH trivial rfl rfl rfl rfl rfl (Cb.bD k3 4 [.bool false,.slice none 0 0,.bool p2,.slice A2 n2 c2] rfl _ _ rfl rfl (by kernel_rfl)) ?_
     refine Pl.aj ?_
     refine Pl.bS [1,3,7] 10 (by kernel_rfl) (by kernel_rfl) (by kernel_rfl) (Pl.aC ?_ (Pl.aC ?_ (Pl.aC ?_ Pl.aR)))
     · refine Pl.aH trivial rfl rfl rfl rfl rfl (Cb.bD ko 2 [.bool eD,.slice dZ d9 ed] rfl _ _ rfl rfl (by kernel_rfl)) ?_
       refine Pl.aj ?_
       refine Pl.bS [3,7] 9 (by kernel_rfl) (by kernel_rfl) (by kernel_rfl) (Pl.aC ?_ (Pl.aC ?_ Pl.aR))
       · refine Pl.aH trivial rfl rfl rfl rfl rfl (Cb.bD ko 0 [.bool iA,.slice gT gU gV] rfl _ _ rfl rfl (by kernel_rfl)) ?_
         refine Pl.aj ?_
         refine Pl.aM [(false,7,127),(true,8,255),(false,9,511),(true,10,1023),(false,11,2047)] 4095 4 Pl.aB (by kernel_rfl) (by kernel_rfl) (by kernel_rfl) ?_
         refine Pl.aH trivial rfl rfl rfl rfl rfl (Cb.bD k3 0 [.bool p2,.slice A2 n2 c2,.bool false,.slice none 0 0] rfl _ _ rfl rfl (by kernel_rfl)) ?_
         refine aS trivial rfl rfl rfl rfl rfl rfl (dS _) ?_
         refine bG (cs':=[.bool eD,.slice dZ d9 ed,.bool eD,.slice dZ d9 ed]) ko 0 [.bool eD,.slice dZ d9 ed] rfl rfl rfl rfl rfl rfl (by kernel_rfl) (by simp) (by simp [Value.oneCell']) (aD (aD aK)) (aD aK) rfl ?_
         intro s2 xa hcs
         replace ko:=hcs
         replace k3:=xa.cb k3 (by simp;omega)
         refine aS trivial rfl rfl rfl rfl rfl rfl (dI _) ?_
         refine bG (cs':=[.bool eD,.slice dZ d9 ed,.bool iA,.slice gT gU gV]) ko 2 [.bool iA,.slice gT gU gV] rfl rfl rfl rfl rfl rfl (by kernel_rfl) (by simp) (by simp [Value.oneCell']) (aD (aD aK)) (aD aK) rfl ?_
         intro s3 xb hcs
         replace ko:=hcs
         replace k3:=xb.cb k3 (by simp;omega)
         refine Pl.aj ?_
         refine Pl.bN _ ?_ (hK _ _ ⟨⟨ko,xa.trans xb⟩,rfl⟩)
         exact (Pl.aa rfl (Pl.aa rfl (Pl.aa rfl (Pl.aa rfl (Pl.aa rfl (Pl.aa rfl (Pl.aa rfl (Pl.aa rfl Pl.aI))))))))
       · refine Pl.aH trivial rfl rfl rfl rfl rfl (Cb.bD k3 0 [.bool p2,.slice A2 n2 c2,.bool false,.slice none 0 0] rfl _ _ rfl rfl (by kernel_rfl)) ?_
         refine Pl.aj ?_
         refine Pl.aM [(false,3,247),(true,8,255),(false,9,511),(true,10,1023),(false,11,2047)] 4095 4 Pl.aB (by kernel_rfl) (by kernel_rfl) (by kernel_rfl) ?_
         refine Pl.aH trivial rfl rfl rfl rfl rfl (Cb.bD ko 0 [.bool iA,.slice gT gU gV] rfl _ _ rfl rfl (by kernel_rfl)) ?_
         refine aS trivial rfl rfl rfl rfl rfl rfl (dS _) ?_
         refine bG (cs':=[.bool eD,.slice dZ d9 ed,.bool eD,.slice dZ d9 ed]) ko 0 [.bool eD,.slice dZ d9 ed] rfl rfl rfl rfl rfl rfl (by kernel_rfl) (by simp) (by simp [Value.oneCell']) (aD (aD aK)) (aD aK) rfl ?_
         intro s2 xa hcs
         replace ko:=hcs
         replace k3:=xa.cb k3 (by simp;omega)
         refine aS trivial rfl rfl rfl rfl rfl rfl (dI _) ?_
         refine bG (cs':=[.bool eD,.slice dZ d9 ed,.bool iA,.slice gT gU gV]) ko 2 [.bool iA,.slice gT gU gV] rfl rfl rfl rfl rfl rfl (by kernel_rfl) (by simp) (by simp [Value.oneCell']) (aD (aD aK)) (aD aK) rfl ?_
         intro s3 xb hcs
         replace ko:=hcs
         replace k3:=xb.cb k3 (by simp;omega)
         refine Pl.aj ?_
         refine Pl.bN _ ?_ (hK _ _ ⟨⟨ko,xa.trans xb⟩,rfl⟩)
         exact (Pl.aa rfl (Pl.aa rfl (Pl.aa rfl (Pl.aa rfl (Pl.aa rfl (Pl.aa rfl (Pl.aa rfl (Pl.aa rfl Pl.aI))))))))
     · refine Pl.aH trivial rfl rfl rfl rfl rfl (Cb.bD ko 0 [.bool iA,.slice gT gU gV] rfl _ _ rfl rfl (by kernel_rfl)) ?_
       refine Pl.aj ?_
       refine Pl.bS [1,7] 9 (by kernel_rfl) (by kernel_rfl) (by kernel_rfl) (Pl.aC ?_ (Pl.aC ?_ Pl.aR))
       · refine Pl.aH trivial rfl rfl rfl rfl rfl (Cb.bD ko 2 [.bool eD,.slice dZ d9 ed] rfl _ _ rfl rfl (by kernel_rfl)) ?_
         refine Pl.aj ?_
         refine Pl.aM [(false,7,127),(true,8,255),(false,9,511),(true,10,1023),(false,11,2047)] 4095 4 Pl.aB (by kernel_rfl) (by kernel_rfl) (by kernel_rfl) ?_
         refine Pl.aH trivial rfl rfl rfl rfl rfl (Cb.bD k3 0 [.bool p2,.slice A2 n2 c2,.bool false,.slice none 0 0] rfl _ _ rfl rfl (by kernel_rfl)) ?_
         refine aS trivial rfl rfl rfl rfl rfl rfl (dS _) ?_
         refine bG (cs':=[.bool eD,.slice dZ d9 ed,.bool eD,.slice dZ d9 ed]) ko 0 [.bool eD,.slice dZ d9 ed] rfl rfl rfl rfl rfl rfl (by kernel_rfl) (by simp) (by simp [Value.oneCell']) (aD (aD aK)) (aD aK) rfl ?_
         intro s2 xa hcs
         replace ko:=hcs
         replace k3:=xa.cb k3 (by simp;omega)
         refine aS trivial rfl rfl rfl rfl rfl rfl (dI _) ?_
         refine bG (cs':=[.bool eD,.slice dZ d9 ed,.bool iA,.slice gT gU gV]) ko 2 [.bool iA,.slice gT gU gV] rfl rfl rfl rfl rfl rfl (by kernel_rfl) (by simp) (by simp [Value.oneCell']) (aD (aD aK)) (aD aK) rfl ?_
         intro s3 xb hcs
         replace ko:=hcs
         replace k3:=xb.cb k3 (by simp;omega)
         refine Pl.aj ?_
         refine Pl.bN _ ?_ (hK _ _ ⟨⟨ko,xa.trans xb⟩,rfl⟩)
         exact (Pl.aa rfl (Pl.aa rfl (Pl.aa rfl (Pl.aa rfl (Pl.aa rfl (Pl.aa rfl (Pl.aa rfl (Pl.aa rfl Pl.aI))))))))
       · refine Pl.aH trivial rfl rfl rfl rfl rfl (Cb.bD k3 0 [.bool p2,.slice A2 n2 c2,.bool false,.slice none 0 0] rfl _ _ rfl rfl (by kernel_rfl)) ?_
         refine Pl.aj ?_
         refine Pl.aM [(false,1,253),(true,8,255),(false,9,511),(true,10,1023),(false,11,2047)] 4095 4 Pl.aB (by kernel_rfl) (by kernel_rfl) (by kernel_rfl) ?_
         refine Pl.aH trivial rfl rfl rfl rfl rfl (Cb.bD ko 2 [.bool eD,.slice dZ d9 ed] rfl _ _ rfl rfl (by kernel_rfl)) ?_
         refine aS trivial rfl rfl rfl rfl rfl rfl (dS _) ?_
         refine bG (cs':=[.bool eD,.slice dZ d9 ed,.bool eD,.slice dZ d9 ed]) ko 0 [.bool eD,.slice dZ d9 ed] rfl rfl rfl rfl rfl rfl (by kernel_rfl) (by simp) (by simp [Value.oneCell']) (aD (aD aK)) (aD aK) rfl ?_
         intro s2 xa hcs
         replace ko:=hcs
         replace k3:=xa.cb k3 (by simp;omega)
         refine aS trivial rfl rfl rfl rfl rfl rfl (dI _) ?_
         refine bG (cs':=[.bool eD,.slice dZ d9 ed,.bool iA,.slice gT gU gV]) ko 2 [.bool iA,.slice gT gU gV] rfl rfl rfl rfl rfl rfl (by kernel_rfl) (by simp) (by simp [Value.oneCell']) (aD (aD aK)) (aD aK) rfl ?_
         intro s3 xb hcs
         replace ko:=hcs
         replace k3:=xb.cb k3 (by simp;omega)
         refine Pl.aj ?_
         refine Pl.bN _ ?_ (hK _ _ ⟨⟨ko,xa.trans xb⟩,rfl⟩)
         exact (Pl.aa rfl (Pl.aa rfl (Pl.aa rfl (Pl.aa rfl (Pl.aa rfl (Pl.aa rfl (Pl.aa rfl (Pl.aa rfl Pl.aI))))))))
     · refine Pl.aH trivial rfl rfl rfl rfl rfl (Cb.bD k3 0 [.bool p2,.slice A2 n2 c2,.bool false,.slice none 0 0] rfl _ _ rfl rfl (by kernel_rfl)) ?_
       refine Pl.aj ?_
       refine Pl.bS [1,3] 9 (by kernel_rfl) (by kernel_rfl) (by kernel_rfl) (Pl.aC ?_ (Pl.aC ?_ Pl.aR))
       · refine Pl.aH trivial rfl rfl rfl rfl rfl (Cb.bD ko 2 [.bool eD,.slice dZ d9 ed] rfl _ _ rfl rfl (by kernel_rfl)) ?_
         refine Pl.aj ?_
         refine Pl.aM [(false,3,247),(true,8,255),(false,9,511),(true,10,1023),(false,11,2047)] 4095 4 Pl.aB (by kernel_rfl) (by kernel_rfl) (by kernel_rfl) ?_
         refine Pl.aH trivial rfl rfl rfl rfl rfl (Cb.bD ko 0 [.bool iA,.slice gT gU gV] rfl _ _ rfl rfl (by kernel_rfl)) ?_
         refine aS trivial rfl rfl rfl rfl rfl rfl (dS _) ?_
         refine bG (cs':=[.bool eD,.slice dZ d9 ed,.bool eD,.slice dZ d9 ed]) ko 0 [.bool eD,.slice dZ d9 ed] rfl rfl rfl rfl rfl rfl (by kernel_rfl) (by simp) (by simp [Value.oneCell']) (aD (aD aK)) (aD aK) rfl ?_
         intro s2 xa hcs
         replace ko:=hcs
         replace k3:=xa.cb k3 (by simp;omega)
         refine aS trivial rfl rfl rfl rfl rfl rfl (dI _) ?_
         refine bG (cs':=[.bool eD,.slice dZ d9 ed,.bool iA,.slice gT gU gV]) ko 2 [.bool iA,.slice gT gU gV] rfl rfl rfl rfl rfl rfl (by kernel_rfl) (by simp) (by simp [Value.oneCell']) (aD (aD aK)) (aD aK) rfl ?_
         intro s3 xb hcs
         replace ko:=hcs
         replace k3:=xb.cb k3 (by simp;omega)
         refine Pl.aj ?_
         refine Pl.bN _ ?_ (hK _ _ ⟨⟨ko,xa.trans xb⟩,rfl⟩)
         exact (Pl.aa rfl (Pl.aa rfl (Pl.aa rfl (Pl.aa rfl (Pl.aa rfl (Pl.aa rfl (Pl.aa rfl (Pl.aa rfl Pl.aI))))))))
       · refine Pl.aH trivial rfl rfl rfl rfl rfl (Cb.bD ko 0 [.bool iA,.slice gT gU gV] rfl _ _ rfl rfl (by kernel_rfl)) ?_
         refine Pl.aj ?_
         refine Pl.aM [(false,1,253),(true,8,255),(false,9,511),(true,10,1023),(false,11,2047)] 4095 4 Pl.aB (by kernel_rfl) (by kernel_rfl) (by kernel_rfl) ?_
         refine Pl.aH trivial rfl rfl rfl rfl rfl (Cb.bD ko 2 [.bool eD,.slice dZ d9 ed] rfl _ _ rfl rfl (by kernel_rfl)) ?_
         refine aS trivial rfl rfl rfl rfl rfl rfl (dS _) ?_
         refine bG (cs':=[.bool eD,.slice dZ d9 ed,.bool eD,.slice dZ d9 ed]) ko 0 [.bool eD,.slice dZ d9 ed] rfl rfl rfl rfl rfl rfl (by kernel_rfl) (by simp) (by simp [Value.oneCell']) (aD (aD aK)) (aD aK) rfl ?_
         intro s2 xa hcs
         replace ko:=hcs
         replace k3:=xa.cb k3 (by simp;omega)
         refine aS trivial rfl rfl rfl rfl rfl rfl (dI _) ?_
         refine bG (cs':=[.bool eD,.slice dZ d9 ed,.bool iA,.slice gT gU gV]) ko 2 [.bool iA,.slice gT gU gV] rfl rfl rfl rfl rfl rfl (by kernel_rfl) (by simp) (by simp [Value.oneCell']) (aD (aD aK)) (aD aK) rfl ?_
         intro s3 xb hcs
         replace ko:=hcs
         replace k3:=xb.cb k3 (by simp;omega)
         refine Pl.aj ?_
         refine Pl.bN _ ?_ (hK _ _ ⟨⟨ko,xa.trans xb⟩,rfl⟩)
         exact (Pl.aa rfl (Pl.aa rfl (Pl.aa rfl (Pl.aa rfl (Pl.aa rfl (Pl.aa rfl (Pl.aa rfl (Pl.aa rfl Pl.aI))))))))
   · refine Pl.aH trivial rfl rfl rfl rfl rfl (Cb.bD k3 0 [.bool p2,.slice A2 n2 c2,.bool false,.slice none 0 0] rfl _ _ rfl rfl (by kernel_rfl)) ?_
     refine Pl.aj ?_
     refine Pl.bS [1,3,5] 10 (by kernel_rfl) (by kernel_rfl) (by kernel_rfl) (Pl.aC ?_ (Pl.aC ?_ (Pl.aC ?_ Pl.aR)))
     · refine Pl.aH trivial rfl rfl rfl rfl rfl (Cb.bD ko 2 [.bool eD,.slice dZ d9 ed] rfl _ _ rfl rfl (by kernel_rfl)) ?_
       refine Pl.aj ?_
       refine Pl.bS [3,5] 9 (by kernel_rfl) (by kernel_rfl) (by kernel_rfl) (Pl.aC ?_ (Pl.aC ?_ Pl.aR))
       · refine Pl.aH trivial rfl rfl rfl rfl rfl (Cb.bD ko 0 [.bool iA,.slice gT gU gV] rfl _ _ rfl rfl (by kernel_rfl)) ?_
         refine Pl.aj ?_
         refine Pl.aM [(true,8,223)] 479 8 Pl.aB (by kernel_rfl) (by kernel_rfl) (by kernel_rfl) ?_
         refine aS trivial rfl rfl rfl rfl rfl rfl (dS _) ?_
         refine Pl.aj ?_
         refine Pl.bS [5,9] 7 (by kernel_rfl) (by kernel_rfl) (by kernel_rfl) (Pl.aC ?_ (Pl.aC ?_ Pl.aR))
         · refine Pl.aH trivial rfl rfl rfl rfl rfl (Cb.bD k3 4 [.bool false,.slice none 0 0,.bool p2,.slice A2 n2 c2] rfl _ _ rfl rfl (by kernel_rfl)) ?_
           refine Pl.aj ?_
           refine Pl.aM [(false,9,511),(true,10,1023),(false,11,2047)] 4095 4 Pl.aB (by kernel_rfl) (by kernel_rfl) (by kernel_rfl) ?_
           refine bG (cs':=[.bool eD,.slice dZ d9 ed,.bool eD,.slice dZ d9 ed]) ko 0 [.bool eD,.slice dZ d9 ed] rfl rfl rfl rfl rfl rfl (by kernel_rfl) (by simp) (by simp [Value.oneCell']) (aD (aD aK)) (aD aK) rfl ?_
           intro s2 xa hcs
           replace ko:=hcs
           replace k3:=xa.cb k3 (by simp;omega)
           refine aS trivial rfl rfl rfl rfl rfl rfl (dI _) ?_
           refine bG (cs':=[.bool eD,.slice dZ d9 ed,.bool iA,.slice gT gU gV]) ko 2 [.bool iA,.slice gT gU gV] rfl rfl rfl rfl rfl rfl (by kernel_rfl) (by simp) (by simp [Value.oneCell']) (aD (aD aK)) (aD aK) rfl ?_
           intro s3 xb hcs
           replace ko:=hcs
           replace k3:=xb.cb k3 (by simp;omega)
           refine Pl.aj ?_
           refine Pl.bN _ ?_ (hK _ _ ⟨⟨ko,xa.trans xb⟩,rfl⟩)
           exact (Pl.aa rfl (Pl.aa rfl (Pl.aa rfl (Pl.aa rfl (Pl.aa rfl (Pl.aa rfl (Pl.aa rfl (Pl.aa rfl Pl.aI))))))))
         · refine bG (cs':=[.bool eD,.slice dZ d9 ed,.bool eD,.slice dZ d9 ed]) ko 0 [.bool eD,.slice dZ d9 ed] rfl rfl rfl rfl rfl rfl (by kernel_rfl) (by simp) (by simp [Value.oneCell']) (aD (aD aK)) (aD aK) rfl ?_
           intro s2 xa hcs
           replace ko:=hcs
           replace k3:=xa.cb k3 (by simp;omega)
           refine Pl.aj ?_
           refine Pl.aM [(true,10,991)] 2015 6 Pl.aB (by kernel_rfl) (by kernel_rfl) (by kernel_rfl) ?_
           refine aS trivial rfl rfl rfl rfl rfl rfl (dI _) ?_
           refine Pl.aj ?_
           refine Pl.bS [5,11] 5 (by kernel_rfl) (by kernel_rfl) (by kernel_rfl) (Pl.aC ?_ (Pl.aC ?_ Pl.aR))
           · refine Pl.aH trivial rfl rfl rfl rfl rfl (Cb.bD k3 4 [.bool false,.slice none 0 0,.bool p2,.slice A2 n2 c2] rfl _ _ rfl rfl (by kernel_rfl)) ?_
             refine Pl.aj ?_
             refine Pl.aM [(false,11,2047)] 4095 4 Pl.aB (by kernel_rfl) (by kernel_rfl) (by kernel_rfl) ?_
             refine bG (cs':=[.bool eD,.slice dZ d9 ed,.bool iA,.slice gT gU gV]) ko 2 [.bool iA,.slice gT gU gV] rfl rfl rfl rfl rfl rfl (by kernel_rfl) (by simp) (by simp [Value.oneCell']) (aD (aD aK)) (aD aK) rfl ?_
             intro s3 xb hcs
             replace ko:=hcs
             replace k3:=xb.cb k3 (by simp;omega)
             refine Pl.aj ?_
             refine Pl.bN _ ?_ (hK _ _ ⟨⟨ko,xa.trans xb⟩,rfl⟩)
             exact (Pl.aa rfl (Pl.aa rfl (Pl.aa rfl (Pl.aa rfl (Pl.aa rfl (Pl.aa rfl (Pl.aa rfl (Pl.aa rfl Pl.aI))))))))
           · refine bG (cs':=[.bool eD,.slice dZ d9 ed,.bool iA,.slice gT gU gV]) ko 2 [.bool iA,.slice gT gU gV] rfl rfl rfl rfl rfl rfl (by kernel_rfl) (by simp) (by simp [Value.oneCell']) (aD (aD aK)) (aD aK) rfl ?_
             intro s3 xb hcs
             replace ko:=hcs
             replace k3:=xb.cb k3 (by simp;omega)
             refine Pl.aj ?_
             refine Pl.aM [(false,5,4063)] 4095 4 Pl.aB (by kernel_rfl) (by kernel_rfl) (by kernel_rfl) ?_
             refine Pl.aH trivial rfl rfl rfl rfl rfl (Cb.bD k3 4 [.bool false,.slice none 0 0,.bool p2,.slice A2 n2 c2] rfl _ _ rfl rfl (by kernel_rfl)) ?_
             refine Pl.aj ?_
             refine Pl.bN _ ?_ (hK _ _ ⟨⟨ko,xa.trans xb⟩,rfl⟩)
             exact (Pl.aa rfl (Pl.aa rfl (Pl.aa rfl (Pl.aa rfl (Pl.aa rfl (Pl.aa rfl (Pl.aa rfl (Pl.aa rfl Pl.aI))))))))
       · refine Pl.aH trivial rfl rfl rfl rfl rfl (Cb.bD k3 4 [.bool false,.slice none 0 0,.bool p2,.slice A2 n2 c2] rfl _ _ rfl rfl (by kernel_rfl)) ?_
         refine Pl.aj ?_
         refine Pl.aM [(false,3,247),(true,8,255),(false,9,511),(true,10,1023),(false,11,2047)] 4095 4 Pl.aB (by kernel_rfl) (by kernel_rfl) (by kernel_rfl) ?_
         refine Pl.aH trivial rfl rfl rfl rfl rfl (Cb.bD ko 0 [.bool iA,.slice gT gU gV] rfl _ _ rfl rfl (by kernel_rfl)) ?_
         refine aS trivial rfl rfl rfl rfl rfl rfl (dS _) ?_
         refine bG (cs':=[.bool eD,.slice dZ d9 ed,.bool eD,.slice dZ d9 ed]) ko 0 [.bool eD,.slice dZ d9 ed] rfl rfl rfl rfl rfl rfl (by kernel_rfl) (by simp) (by simp [Value.oneCell']) (aD (aD aK)) (aD aK) rfl ?_
         intro s2 xa hcs
         replace ko:=hcs
         replace k3:=xa.cb k3 (by simp;omega)
         refine aS trivial rfl rfl rfl rfl rfl rfl (dI _) ?_
         refine bG (cs':=[.bool eD,.slice dZ d9 ed,.bool iA,.slice gT gU gV]) ko 2 [.bool iA,.slice gT gU gV] rfl rfl rfl rfl rfl rfl (by kernel_rfl) (by simp) (by simp [Value.oneCell']) (aD (aD aK)) (aD aK) rfl ?_
         intro s3 xb hcs
         replace ko:=hcs
         replace k3:=xb.cb k3 (by simp;omega)
         refine Pl.aj ?_
         refine Pl.bN _ ?_ (hK _ _ ⟨⟨ko,xa.trans xb⟩,rfl⟩)
         exact (Pl.aa rfl (Pl.aa rfl (Pl.aa rfl (Pl.aa rfl (Pl.aa rfl (Pl.aa rfl (Pl.aa rfl (Pl.aa rfl Pl.aI))))))))
     · refine Pl.aH trivial rfl rfl rfl rfl rfl (Cb.bD ko 0 [.bool iA,.slice gT gU gV] rfl _ _ rfl rfl (by kernel_rfl)) ?_
       refine Pl.aj ?_
       refine Pl.bS [1,5] 9 (by kernel_rfl) (by kernel_rfl) (by kernel_rfl) (Pl.aC ?_ (Pl.aC ?_ Pl.aR))
       · refine Pl.aH trivial rfl rfl rfl rfl rfl (Cb.bD ko 2 [.bool eD,.slice dZ d9 ed] rfl _ _ rfl rfl (by kernel_rfl)) ?_
         refine Pl.aj ?_
         refine Pl.aM [(true,8,223)] 479 8 Pl.aB (by kernel_rfl) (by kernel_rfl) (by kernel_rfl) ?_
         refine aS trivial rfl rfl rfl rfl rfl rfl (dS _) ?_
         refine Pl.aj ?_
         refine Pl.bS [5,9] 7 (by kernel_rfl) (by kernel_rfl) (by kernel_rfl) (Pl.aC ?_ (Pl.aC ?_ Pl.aR))
         · refine Pl.aH trivial rfl rfl rfl rfl rfl (Cb.bD k3 4 [.bool false,.slice none 0 0,.bool p2,.slice A2 n2 c2] rfl _ _ rfl rfl (by kernel_rfl)) ?_
           refine Pl.aj ?_
           refine Pl.aM [(false,9,511),(true,10,1023),(false,11,2047)] 4095 4 Pl.aB (by kernel_rfl) (by kernel_rfl) (by kernel_rfl) ?_
           refine bG (cs':=[.bool eD,.slice dZ d9 ed,.bool eD,.slice dZ d9 ed]) ko 0 [.bool eD,.slice dZ d9 ed] rfl rfl rfl rfl rfl rfl (by kernel_rfl) (by simp) (by simp [Value.oneCell']) (aD (aD aK)) (aD aK) rfl ?_
           intro s2 xa hcs
           replace ko:=hcs
           replace k3:=xa.cb k3 (by simp;omega)
           refine aS trivial rfl rfl rfl rfl rfl rfl (dI _) ?_
           refine bG (cs':=[.bool eD,.slice dZ d9 ed,.bool iA,.slice gT gU gV]) ko 2 [.bool iA,.slice gT gU gV] rfl rfl rfl rfl rfl rfl (by kernel_rfl) (by simp) (by simp [Value.oneCell']) (aD (aD aK)) (aD aK) rfl ?_
           intro s3 xb hcs
           replace ko:=hcs
           replace k3:=xb.cb k3 (by simp;omega)
           refine Pl.aj ?_
           refine Pl.bN _ ?_ (hK _ _ ⟨⟨ko,xa.trans xb⟩,rfl⟩)
           exact (Pl.aa rfl (Pl.aa rfl (Pl.aa rfl (Pl.aa rfl (Pl.aa rfl (Pl.aa rfl (Pl.aa rfl (Pl.aa rfl Pl.aI))))))))
         · refine bG (cs':=[.bool eD,.slice dZ d9 ed,.bool eD,.slice dZ d9 ed]) ko 0 [.bool eD,.slice dZ d9 ed] rfl rfl rfl rfl rfl rfl (by kernel_rfl) (by simp) (by simp [Value.oneCell']) (aD (aD aK)) (aD aK) rfl ?_
           intro s2 xa hcs
           replace ko:=hcs
           replace k3:=xa.cb k3 (by simp;omega)
           refine Pl.aj ?_
           refine Pl.aM [(true,10,991)] 2015 6 Pl.aB (by kernel_rfl) (by kernel_rfl) (by kernel_rfl) ?_
           refine aS trivial rfl rfl rfl rfl rfl rfl (dI _) ?_
           refine Pl.aj ?_
           refine Pl.bS [5,11] 5 (by kernel_rfl) (by kernel_rfl) (by kernel_rfl) (Pl.aC ?_ (Pl.aC ?_ Pl.aR))
           · refine Pl.aH trivial rfl rfl rfl rfl rfl (Cb.bD k3 4 [.bool false,.slice none 0 0,.bool p2,.slice A2 n2 c2] rfl _ _ rfl rfl (by kernel_rfl)) ?_
             refine Pl.aj ?_
             refine Pl.aM [(false,11,2047)] 4095 4 Pl.aB (by kernel_rfl) (by kernel_rfl) (by kernel_rfl) ?_
             refine bG (cs':=[.bool eD,.slice dZ d9 ed,.bool iA,.slice gT gU gV]) ko 2 [.bool iA,.slice gT gU gV] rfl rfl rfl rfl rfl rfl (by kernel_rfl) (by simp) (by simp [Value.oneCell']) (aD (aD aK)) (aD aK) rfl ?_
             intro s3 xb hcs
             replace ko:=hcs
             replace k3:=xb.cb k3 (by simp;omega)
             refine Pl.aj ?_
             refine Pl.bN _ ?_ (hK _ _ ⟨⟨ko,xa.trans xb⟩,rfl⟩)
             exact (Pl.aa rfl (Pl.aa rfl (Pl.aa rfl (Pl.aa rfl (Pl.aa rfl (Pl.aa rfl (Pl.aa rfl (Pl.aa rfl Pl.aI))))))))
           · refine bG (cs':=[.bool eD,.slice dZ d9 ed,.bool iA,.slice gT gU gV]) ko 2 [.bool iA,.slice gT gU gV] rfl rfl rfl rfl rfl rfl (by kernel_rfl) (by simp) (by simp [Value.oneCell']) (aD (aD aK)) (aD aK) rfl ?_
             intro s3 xb hcs
             replace ko:=hcs
             replace k3:=xb.cb k3 (by simp;omega)
             refine Pl.aj ?_
             refine Pl.aM [(false,5,4063)] 4095 4 Pl.aB (by kernel_rfl) (by kernel_rfl) (by kernel_rfl) ?_
             refine Pl.aH trivial rfl rfl rfl rfl rfl (Cb.bD k3 4 [.bool false,.slice none 0 0,.bool p2,.slice A2 n2 c2] rfl _ _ rfl rfl (by kernel_rfl)) ?_
             refine Pl.aj ?_
             refine Pl.bN _ ?_ (hK _ _ ⟨⟨ko,xa.trans xb⟩,rfl⟩)
             exact (Pl.aa rfl (Pl.aa rfl (Pl.aa rfl (Pl.aa rfl (Pl.aa rfl (Pl.aa rfl (Pl.aa rfl (Pl.aa rfl Pl.aI))))))))
       · refine Pl.aH trivial rfl rfl rfl rfl rfl (Cb.bD k3 4 [.bool false,.slice none 0 0,.bool p2,.slice A2 n2 c2] rfl _ _ rfl rfl (by kernel_rfl)) ?_
         refine Pl.aj ?_
         refine Pl.aM [(false,1,253),(true,8,255),(false,9,511),(true,10,1023),(false,11,2047)] 4095 4 Pl.aB (by kernel_rfl) (by kernel_rfl) (by kernel_rfl) ?_
         refine Pl.aH trivial rfl rfl rfl rfl rfl (Cb.bD ko 2 [.bool eD,.slice dZ d9 ed] rfl _ _ rfl rfl (by kernel_rfl)) ?_
         refine aS trivial rfl rfl rfl rfl rfl rfl (dS _) ?_
         refine bG (cs':=[.bool eD,.slice dZ d9 ed,.bool eD,.slice dZ d9 ed]) ko 0 [.bool eD,.slice dZ d9 ed] rfl rfl rfl rfl rfl rfl (by kernel_rfl) (by simp) (by simp [Value.oneCell']) (aD (aD aK)) (aD aK) rfl ?_
         intro s2 xa hcs
         replace ko:=hcs
         replace k3:=xa.cb k3 (by simp;omega)
         refine aS trivial rfl rfl rfl rfl rfl rfl (dI _) ?_
         refine bG (cs':=[.bool eD,.slice dZ d9 ed,.bool iA,.slice gT gU gV]) ko 2 [.bool iA,.slice gT gU gV] rfl rfl rfl rfl rfl rfl (by kernel_rfl) (by simp) (by simp [Value.oneCell']) (aD (aD aK)) (aD aK) rfl ?_
         intro s3 xb hcs
         replace ko:=hcs
         replace k3:=xb.cb k3 (by simp;omega)
         refine Pl.aj ?_
         refine Pl.bN _ ?_ (hK _ _ ⟨⟨ko,xa.trans xb⟩,rfl⟩)
         exact (Pl.aa rfl (Pl.aa rfl (Pl.aa rfl (Pl.aa rfl (Pl.aa rfl (Pl.aa rfl (Pl.aa rfl (Pl.aa rfl Pl.aI))))))))
     · refine Pl.aH trivial rfl rfl rfl rfl rfl (Cb.bD k3 4 [.bool false,.slice none 0 0,.bool p2,.slice A2 n2 c2] rfl _ _ rfl rfl (by kernel_rfl)) ?_
       refine Pl.aj ?_
       refine Pl.bS [1,3] 9 (by kernel_rfl) (by kernel_rfl) (by kernel_rfl) (Pl.aC ?_ (Pl.aC ?_ Pl.aR))
       · refine Pl.aH trivial rfl rfl rfl rfl rfl (Cb.bD ko 2 [.bool eD,.slice dZ d9 ed] rfl _ _ rfl rfl (by kernel_rfl)) ?_
         refine Pl.aj ?_
         refine Pl.aM [(false,3,247),(true,8,255),(false,9,511),(true,10,1023),(false,11,2047)] 4095 4 Pl.aB (by kernel_rfl) (by kernel_rfl) (by kernel_rfl) ?_
         refine Pl.aH trivial rfl rfl rfl rfl rfl (Cb.bD ko 0 [.bool iA,.slice gT gU gV] rfl _ _ rfl rfl (by kernel_rfl)) ?_
         refine aS trivial rfl rfl rfl rfl rfl rfl (dS _) ?_
         refine bG (cs':=[.bool eD,.slice dZ d9 ed,.bool eD,.slice dZ d9 ed]) ko 0 [.bool eD,.slice dZ d9 ed] rfl rfl rfl rfl rfl rfl (by kernel_rfl) (by simp) (by simp [Value.oneCell']) (aD (aD aK)) (aD aK) rfl ?_
         intro s2 xa hcs
         replace ko:=hcs
         replace k3:=xa.cb k3 (by simp;omega)
         refine aS trivial rfl rfl rfl rfl rfl rfl (dI _) ?_
         refine bG (cs':=[.bool eD,.slice dZ d9 ed,.bool iA,.slice gT gU gV]) ko 2 [.bool iA,.slice gT gU gV] rfl rfl rfl rfl rfl rfl (by kernel_rfl) (by simp) (by simp [Value.oneCell']) (aD (aD aK)) (aD aK) rfl ?_
         intro s3 xb hcs
         replace ko:=hcs
         replace k3:=xb.cb k3 (by simp;omega)
         refine Pl.aj ?_
         refine Pl.bN _ ?_ (hK _ _ ⟨⟨ko,xa.trans xb⟩,rfl⟩)
         exact (Pl.aa rfl (Pl.aa rfl (Pl.aa rfl (Pl.aa rfl (Pl.aa rfl (Pl.aa rfl (Pl.aa rfl (Pl.aa rfl Pl.aI))))))))
       · refine Pl.aH trivial rfl rfl rfl rfl rfl (Cb.bD ko 0 [.bool iA,.slice gT gU gV] rfl _ _ rfl rfl (by kernel_rfl)) ?_
         refine Pl.aj ?_
         refine Pl.aM [(false,1,253),(true,8,255),(false,9,511),(true,10,1023),(false,11,2047)] 4095 4 Pl.aB (by kernel_rfl) (by kernel_rfl) (by kernel_rfl) ?_
         refine Pl.aH trivial rfl rfl rfl rfl rfl (Cb.bD ko 2 [.bool eD,.slice dZ d9 ed] rfl _ _ rfl rfl (by kernel_rfl)) ?_
         refine aS trivial rfl rfl rfl rfl rfl rfl (dS _) ?_
         refine bG (cs':=[.bool eD,.slice dZ d9 ed,.bool eD,.slice dZ d9 ed]) ko 0 [.bool eD,.slice dZ d9 ed] rfl rfl rfl rfl rfl rfl (by kernel_rfl) (by simp) (by simp [Value.oneCell']) (aD (aD aK)) (aD aK) rfl ?_
         intro s2 xa hcs
         replace ko:=hcs
         replace k3:=xa.cb k3 (by simp;omega)
         refine aS trivial rfl rfl rfl rfl rfl rfl (dI _) ?_
         refine bG (cs':=[.bool eD,.slice dZ d9 ed,.bool iA,.slice gT gU gV]) ko 2 [.bool iA,.slice gT gU gV] rfl rfl rfl rfl rfl rfl (by kernel_rfl) (by simp) (by simp [Value.oneCell']) (aD (aD aK)) (aD aK) rfl ?_
         intro s3 xb hcs
         replace ko:=hcs
         replace k3:=xb.cb k3 (by simp;omega)
         refine Pl.aj ?_
         refine Pl.bN _ ?_ (hK _ _ ⟨⟨ko,xa.trans xb⟩,rfl⟩)
         exact (Pl.aa rfl (Pl.aa rfl (Pl.aa rfl (Pl.aa rfl (Pl.aa rfl (Pl.aa rfl (Pl.aa rfl (Pl.aa rfl Pl.aI))))))))
 rintro _ s3 ⟨⟨ko2,xab⟩,rfl⟩
 replace k3:=xab.cb k3 (by simp;omega)
 replace ko:=ko2
 refine Pl.aM [(true,12,4095),(false,13,8191),(true,14,16383),(false,15,32767)] 65535 0 Pl.aB (by kernel_rfl) (by kernel_rfl) (by kernel_rfl) ?_
 refine aS trivial rfl rfl rfl rfl rfl rfl (uI _) ?_
 refine bG (cs':=[.bool false,.slice none 0 0,.bool p2,.slice A2 n2 c2,.bool false,.slice none 0 0,.bool p2,.slice A2 n2 c2]) k3 0 [.bool false,.slice none 0 0,.bool p2,.slice A2 n2 c2] rfl rfl rfl rfl rfl rfl (by kernel_rfl) (by simp) (by simp [Value.oneCell']) (aD (aD (aD (aD aK)))) (aD (aD aK)) rfl ?_
 intro s4 xc hcs
 replace k3:=hcs
 refine aS trivial rfl rfl rfl rfl rfl rfl (uJ _) ?_
 refine bG (cs':=[.bool false,.slice none 0 0,.bool p2,.slice A2 n2 c2,.bool p2,.slice A2 n2 c2,.bool false,.slice none 0 0]) k3 4 [.bool p2,.slice A2 n2 c2,.bool false,.slice none 0 0] rfl rfl rfl rfl rfl rfl (by kernel_rfl) (by simp) (by simp [Value.oneCell']) (aD (aD (aD (aD aK)))) (aD (aD aK)) rfl ?_
 intro s5 xd hcs
 replace k3:=hcs
 refine Pl.aj ?_
 refine Pl.uT (by kernel_rfl) ?_
 have xe:Xt [No,Nm] s1 s5:=(xab.mono (by simp)).trans ((xc.mono (by simp)).trans (xd.mono (by simp)))
 replace ko:=xd.cb (xc.cb ko (by simp;omega)) (by simp;omega)
 replace k2:=xe.cb k2 (by simp;omega)
 replace k4:=xe.cb k4 (by simp;omega)
 replace Ko:=Zn.kp Ko xe.kp
 replace Kq:=Zn.kp Kq xe.kp
 replace hr0:=Zn.kp hr0 xe.kp
 replace hr1:=Zn.kp hr1 xe.kp
 replace hE:=hE.xt xe (by simp;have:=hB1.size;omega)
 repeat refine Pl.ay ?_
 refine Pl.iJ (S:=fun X=>Cb X No 108 [.bool eD,.slice dZ d9 ed,.bool iA,.slice gT gU gV]∧Cb X Nm 110 [.bool false,.slice none 0 0,.bool p2,.slice A2 n2 c2,.bool p2,.slice A2 n2 c2,.bool false,.slice none 0 0]∧Cb X Ns 112 [.slice A_a (limbs a).length c_a,.slice Jd (limbs b).length Je,.bool p1,.slice A1 n1 c1,.bool false,.slice none 0 0,.bool false,.slice none 0 0,.bool p1,.slice A1 n1 c1]) [(true,0,0),(true,1,1),(true,2,3),(true,3,7),(true,4,15),(true,5,31),(true,6,63),(true,7,127),(true,8,255),(false,9,511),(true,10,1023),(false,11,2047)] fo Pl.aB (by kernel_rfl) ⟨Cb.ext ko (Ext.drew (Ext.refl _)),Cb.ext k3 (Ext.drew (Ext.refl _)),Cb.ext k2 (Ext.drew (Ext.refl _))⟩ ?_
 have hD3:=Ext.drew (Ext.refl s5)
 generalize s5.drew=s6 at *
 intro gP
 refine aS gP rfl rfl rfl rfl rfl rfl (dS _) ?_
 refine bL gP rfl rfl rfl rfl rfl (aeR _) ?_
 refine Pl.aX gP rfl rfl rfl rfl rfl (fun X hX=>Cb.jZ (j:=1) hX.1 rfl) ?_
 refine aS gP rfl rfl rfl rfl rfl rfl (dI _) ?_
 refine bL gP rfl rfl rfl rfl rfl (aeS _) ?_
 refine Pl.aX gP rfl rfl rfl rfl rfl (fun X hX=>Cb.jZ (j:=3) hX.1 rfl) ?_
 refine Pl.aX gP rfl rfl rfl rfl rfl (fun X hX=>Cb.load hX.2.1 _ _ rfl rfl (by kernel_rfl)) ?_
 refine bL gP rfl rfl rfl rfl rfl (WH _) ?_
 refine Pl.aX gP rfl rfl rfl rfl rfl (fun X hX=>Cb.bD hX.2.2 2 [.bool p1,.slice A1 n1 c1,.bool false,.slice none 0 0,.bool false,.slice none 0 0,.bool p1,.slice A1 n1 c1] rfl _ _ rfl rfl (by kernel_rfl)) ?_
 refine Pl.az rfl rfl rfl rfl rfl (fun u X=>Pl.enters Tryz.func135 (by kernel_rfl) rfl u X) ?_
 refine Calls.mono (Mf _ _ _ _ _ 0 _ _ _ _ 1 _ _ _ _ 1 _ _ _ _ 0 _ _ _ _ 1 _ _ _ _ 0 _ _ _ _ 0 _ _ _ _ 1 (Zn.nil _) (Sz.lit (by decide) (by decide)) (Zn.below Kq hD3) (Sz.lit (by decide) (by decide)) (Zn.below Kq hD3) (Sz.lit (by decide) (by decide)) (Zn.nil _) (Sz.lit (by decide) (by decide)) (Zn.below Ko hD3) (Sz.lit (by decide) (by decide)) (Zn.nil _) (Sz.lit (by decide) (by decide)) (Zn.nil _) (Sz.lit (by decide) (by decide)) (Zn.below Ko hD3) (Sz.lit (by decide) (by decide))) ?_
 rintro e s7 ⟨cs,rfl,hcs,hcl,hC7⟩
 have hT7:Cb s7 No 108 [.bool eD,.slice dZ d9 ed,.bool iA,.slice gT gU gV]∧Cb s7 Nm 110 [.bool false,.slice none 0 0,.bool p2,.slice A2 n2 c2,.bool p2,.slice A2 n2 c2,.bool false,.slice none 0 0]∧Cb s7 Ns 112 [.slice A_a (limbs a).length c_a,.slice Jd (limbs b).length Je,.bool p1,.slice A1 n1 c1,.bool false,.slice none 0 0,.bool false,.slice none 0 0,.bool p1,.slice A1 n1 c1]:=⟨Cb.ext gP.1 hC7,Cb.ext gP.2.1 hC7,Cb.ext gP.2.2 hC7⟩
 have hG7:=hD3.below hC7
 replace k4:=Cb.ext k4 hG7
 obtain ⟨g0,B0,l0,e0,g1,B1,l1,e1,g2,B2,l2,e2,g3,B3,l3,e3,rfl⟩:=Gd.four hcs hcl
 refine ⟨_,rfl,hT7,?_⟩
 refine Pl.dB (v:=.agg ([.slice dZ d9 ed,.slice gT gU gV,.bool g0,.slice B0 l0 e0,.bool g1,.slice B1 l1 e1,.bool g2,.slice B2 l2 e2,.bool g3,.slice B3 l3 e3]:List Value).toArray) hT7 rfl rfl rfl (fun ρ hρ X _=>by have e71:=hρ.tmp 71 _ rfl;have e74:=hρ.tmp 74 _ rfl;have e78:=hρ.tmp 78 _ rfl;simp [go_sem,e71,e74,e78]) ?_
 have x8:Xt [Nr] s7 (s7.setRow Nr ([.slice dZ d9 ed,.slice gT gU gV,.bool g0,.slice B0 l0 e0,.bool g1,.slice B1 l1 e1,.bool g2,.slice B2 l2 e2,.bool g3,.slice B3 l3 e3]:List Value).toArray):=Xt.put k4 (jq (yJ _ _ _) (jq (yJ _ _ _) (aD (aD (aD (aD aK)))))) (by simp) _
 refine iC (new:=[.slice dZ d9 ed,.slice gT gU gV,.bool g0,.slice B0 l0 e0,.bool g1,.slice B1 l1 e1,.bool g2,.slice B2 l2 e2,.bool g3,.slice B3 l3 e3]) k4 rfl rfl rfl rfl rfl rfl (by kernel_rfl) rfl (by simp [Value.oneCell']) ⟨x8.cb hT7.1 (by simp;omega),x8.cb hT7.2.1 (by simp;omega),x8.cb hT7.2.2 (by simp;omega)⟩ ?_
 have k4f:=Cb.put k4 [.slice dZ d9 ed,.slice gT gU gV,.bool g0,.slice B0 l0 e0,.bool g1,.slice B1 l1 e1,.bool g2,.slice B2 l2 e2,.bool g3,.slice B3 l3 e3]
 generalize s7.setRow Nr ([.slice dZ d9 ed,.slice gT gU gV,.bool g0,.slice B0 l0 e0,.bool g1,.slice B1 l1 e1,.bool g2,.slice B2 l2 e2,.bool g3,.slice B3 l3 e3]:List Value).toArray=s8 at *
 refine Pl.aj ?_
 have ao9:=Zn.mag (Zn.kp (Zn.below hr0 hG7) x8.kp)
 have ao':=Zn.mag (Zn.kp (Zn.below hr1 hG7) x8.kp)
 rw [Int.natAbs_natCast] at ao9 ao'
 exact kE rfl rfl k4f rfl rfl (by kernel_rfl) ⟨_,_,_,_,_,_,[.bool g0,.slice B0 l0 e0,.bool g1,.slice B1 l1 e1,.bool g2,.slice B2 l2 e2,.bool g3,.slice B3 l3 e3],rfl,ao',ao9,Gd.kp x8.kp hcs,rfl,(hE.below hG7).xt x8 (by simp;have:=hB1.size;omega)⟩
end Go.Proofs.YtfhcmggpojhegaaGreatDoor
namespace Go.Proofs.YtfhcmggpojhegaaGreatDoor
open Go.RowKit
set_option linter.all false
set_option maxRecDepth 100000
set_option maxHeartbeats 8000000
theorem aj3 {P Q:Nat} (h:P<Q):dY P Q<0:=by
 have h2:=zQ (P:Int) (Q:Int)
 rw [← h2,Int.sign_eq_neg_one_of_neg (by omega)];decide
theorem RN (w:World) (va vb:Value) (a b:Nat) (ha:Un w va a) (hb:Un w vb b) (hla:Sn a 90) (hlb:Sn b 90) (hab:a<b) :
  Calls Tryz.prog 76 #[va,vb] w fun e w'=>∃ Ax nx cx Ay ny cy cs,e = .returned (.agg (.slice Ax nx cx::.slice Ay ny cy::cs).toArray)∧Un w' (.slice Ax nx cx) b∧Un w' (.slice Ay ny cy) a∧cs.length=8∧(∀ c∈cs,gF c)∧(∀ c∈cs,c.oneCell'=true)∧Ext w w':=by
 obtain ⟨Aa,ca,rfl,-⟩:=Un.sh ha
 obtain ⟨Ab,cb,rfl,-⟩:=Un.sh hb
 refine Pl.aZ (n:=44) (vs:=[.slice Aa (limbs a).length ca,.slice Ab (limbs b).length cb]) Tryz.func76 rfl (by kernel_rfl) (by simp) ?_
 repeat refine Pl.ay ?_
 refine Pl.ak (by kernel_rfl) ?_
 refine fB rfl rfl rfl rfl (z:=.agg ([.slice none 0 0,.slice none 0 0,.bool false,.slice none 0 0,.bool false,.slice none 0 0,.bool false,.slice none 0 0,.bool false,.slice none 0 0]:List Value).toArray) (by kernel_rfl) (fun _ _=>trivial) ?_
 intro Nr w1 hB1 hNr kr
 replace kr:Cb w1 Nr 112 [.slice none 0 0,.slice none 0 0,.bool false,.slice none 0 0,.bool false,.slice none 0 0,.bool false,.slice none 0 0,.bool false,.slice none 0 0]:=kr
 refine Pl.aj ?_
 repeat refine Pl.ay ?_
 refine Pl.ak (by kernel_rfl) ?_
 refine Pl.aA trivial rfl rfl rfl rfl rfl ?_
 refine Pl.aA trivial rfl rfl rfl rfl rfl ?_
 refine Pl.az rfl rfl rfl rfl rfl (fun u X=>Pl.enters Tryz.func132 (by kernel_rfl) rfl u X) ?_
 refine Calls.mono (qW _) ?_
 rintro e w2 ⟨p1,A1,n1,c1,rfl,hz1,hB2⟩
 refine ⟨_,rfl,trivial,?_⟩
 refine Pl.dB (v:=.agg ([.slice Aa (limbs a).length ca,.slice Ab (limbs b).length cb,.bool p1,.slice A1 n1 c1,.bool false,.slice none 0 0,.bool false,.slice none 0 0,.bool p1,.slice A1 n1 c1]:List Value).toArray) trivial rfl rfl rfl (fun ρ hρ X _=>by have e7:=hρ.tmp 7 _ rfl;have e8:=hρ.tmp 8 _ rfl;have e9:=hρ.tmp 9 _ rfl;simp [go_sem,e7,e8,e9]) ?_
 refine fB rfl rfl rfl rfl (z:=.agg ([.slice none 0 0,.slice none 0 0,.bool false,.slice none 0 0,.bool false,.slice none 0 0,.bool false,.slice none 0 0,.bool false,.slice none 0 0]:List Value).toArray) (by kernel_rfl) (fun _ _=>trivial) ?_
 intro Ns w3 hB3 hNs ks
 replace ks:Cb w3 Ns 112 [.slice none 0 0,.slice none 0 0,.bool false,.slice none 0 0,.bool false,.slice none 0 0,.bool false,.slice none 0 0,.bool false,.slice none 0 0]:=ks
 refine iC (new:=[.slice Aa (limbs a).length ca,.slice Ab (limbs b).length cb,.bool p1,.slice A1 n1 c1,.bool false,.slice none 0 0,.bool false,.slice none 0 0,.bool p1,.slice A1 n1 c1]) ks rfl rfl rfl rfl rfl rfl (by kernel_rfl) rfl (by simp [Value.oneCell']) trivial ?_
 have x4:Xt [Ns] w3 (w3.setRow Ns ([.slice Aa (limbs a).length ca,.slice Ab (limbs b).length cb,.bool p1,.slice A1 n1 c1,.bool false,.slice none 0 0,.bool false,.slice none 0 0,.bool p1,.slice A1 n1 c1]:List Value).toArray):=Xt.put ks (jq (yJ _ _ _) (jq (yJ _ _ _) (aD (aD (aD (aD aK)))))) (by simp) _
 have hrs:Nr≠Ns:=by have:=(Cb.ext kr hB2).lt;omega
 replace ks:=Cb.put ks [.slice Aa (limbs a).length ca,.slice Ab (limbs b).length cb,.bool p1,.slice A1 n1 c1,.bool false,.slice none 0 0,.bool false,.slice none 0 0,.bool p1,.slice A1 n1 c1]
 replace kr:=x4.cb (Cb.ext kr (hB2.below hB3)) (by simpa using hrs)
 have hws:w.heap.size≤Ns:=Nat.le_trans (hB1.below hB2).size hNs
 have hE:=(hB1.below (hB2.below hB3)).xt x4 (by simpa using hws)
 replace hz1:=Zn.kp (Zn.below hz1 hB3) x4.kp
 generalize w3.setRow Ns ([.slice Aa (limbs a).length ca,.slice Ab (limbs b).length cb,.bool p1,.slice A1 n1 c1,.bool false,.slice none 0 0,.bool false,.slice none 0 0,.bool p1,.slice A1 n1 c1]:List Value).toArray=w4 at *
 refine Pl.aj ?_
 repeat refine Pl.ay ?_
 refine Pl.ak (by kernel_rfl) ?_
 refine Pl.aA trivial rfl rfl rfl rfl rfl ?_
 refine Pl.aA trivial rfl rfl rfl rfl rfl ?_
 refine Pl.az rfl rfl rfl rfl rfl (fun u X=>Pl.enters Tryz.func31 (by kernel_rfl) rfl u X) ?_
 refine Calls.mono (pU _ _ _ a b (Un.below ha hE) (Un.below hb hE) _ rfl) ?_
 rintro e w5 ⟨rfl,dJ⟩
 refine ⟨_,rfl,trivial,?_⟩
 refine Pl.aN (v:=.bool true) trivial rfl rfl rfl rfl rfl rfl (fun X=>jc (decide_eq_true (aj3 hab)) X) ?_
 refine Pl.aj ?_
 replace ks:=Cb.ext ks dJ
 replace kr:=Cb.ext kr dJ
 replace hE:=hE.below dJ
 replace hz1:=Zn.below hz1 dJ
 repeat refine Pl.ay ?_
 repeat refine Pl.ay ?_
 refine Pl.cK rfl ?_
 refine Pl.j6 (S:=fun _=>True) fo trivial ?_
 have hD:=Ext.drew (Ext.refl w5)
 replace ks:=Cb.ext ks hD
 replace kr:=Cb.ext kr hD
 replace hE:=hE.below hD
 replace hz1:=Zn.below hz1 hD
 generalize w5.drew=w6 at *
 intro _
 refine Pl.oN 2 3 (fun l' w'=>(∃ p2 A2 n2 c2,Zn w' (.agg #[.bool p2,.slice A2 n2 c2]) 1∧Cb w' Ns 112 [.slice Aa (limbs a).length ca,.slice Ab (limbs b).length cb,.bool p1,.slice A1 n1 c1,.bool false,.slice none 0 0,.bool false,.slice none 0 0,.bool p1,.slice A1 n1 c1]∧Ext w6 w'∧l'=[(5,.pointer (some ⟨Ns,0,none⟩)),(4,.pointer (some ⟨Nr,0,none⟩)),(15,.agg ([.slice Aa (limbs a).length ca,.slice Ab (limbs b).length cb,.bool p1,.slice A1 n1 c1,.bool false,.slice none 0 0,.bool false,.slice none 0 0,.bool p1,.slice A1 n1 c1]:List Value).toArray),(16,.agg ([.bool p2,.slice A2 n2 c2,.bool false,.slice none 0 0,.bool false,.slice none 0 0,.bool p2,.slice A2 n2 c2]:List Value).toArray)])) ?_ ?_
 rotate_left
 · intro hK
   refine Pl.bS [0,1] 3 (by kernel_rfl) (by kernel_rfl) (by kernel_rfl) (Pl.aC ?_ (Pl.aC ?_ Pl.aR))
   · refine Pl.aH trivial rfl rfl rfl rfl rfl (Cb.load ks _ _ rfl rfl (by kernel_rfl)) ?_
     refine Pl.aj ?_
     refine Pl.aM [(false,1,1)] 3 2 Pl.aB (by kernel_rfl) (by kernel_rfl) (by kernel_rfl) ?_
     refine Pl.az rfl rfl rfl rfl rfl (fun u X=>Pl.enters Tryz.func132 (by kernel_rfl) rfl u X) ?_
     refine Calls.mono (qW _) ?_
     rintro e w7 ⟨p2,A2,n2,c2,rfl,hz2,dP⟩
     replace ks:=Cb.ext ks dP
     refine ⟨_,rfl,trivial,?_⟩
     refine Pl.aj ?_
     refine Pl.bN _ ?_ (hK _ _ ⟨p2,A2,n2,c2,hz2,ks,dP,rfl⟩)
     exact (Pl.aa rfl (Pl.aa rfl (Pl.aa rfl (Pl.aa rfl Pl.aI))))
   · refine Pl.az rfl rfl rfl rfl rfl (fun u X=>Pl.enters Tryz.func132 (by kernel_rfl) rfl u X) ?_
     refine Calls.mono (qW _) ?_
     rintro e w7 ⟨p2,A2,n2,c2,rfl,hz2,dP⟩
     replace ks:=Cb.ext ks dP
     refine ⟨_,rfl,trivial,?_⟩
     refine Pl.aj ?_
     refine Pl.aM [(false,0,2)] 3 2 Pl.aB (by kernel_rfl) (by kernel_rfl) (by kernel_rfl) ?_
     refine Pl.aH trivial rfl rfl rfl rfl rfl (Cb.load ks _ _ rfl rfl (by kernel_rfl)) ?_
     refine Pl.aj ?_
     refine Pl.bN _ ?_ (hK _ _ ⟨p2,A2,n2,c2,hz2,ks,dP,rfl⟩)
     exact (Pl.aa rfl (Pl.aa rfl (Pl.aa rfl (Pl.aa rfl Pl.aI))))
 rintro _ w7 ⟨p2,A2,n2,c2,hz2,ks,dP,rfl⟩
 refine Pl.aM [(false,2,3),(false,3,7)] 15 0 Pl.aB (by kernel_rfl) (by kernel_rfl) (by kernel_rfl) ?_
 refine Pl.az rfl rfl rfl rfl rfl (fun u X=>Pl.enters Tryz.func133 (by kernel_rfl) rfl u X) ?_
 refine Calls.mono (RG w7 Aa Ab ca cb p1 A1 n1 c1 p2 A2 n2 c2 a b (Un.below ha (hE.below dP)) (Un.below hb (hE.below dP)) (Zn.below hz1 dP) hz2 hla hlb hab) ?_
 rintro e w8 ⟨Ax,nx,cx,Ay,ny,cy,cs,rfl,hx,hy,hcg,hcl,dU⟩
 refine ⟨_,rfl,trivial,?_⟩
 replace ks:=Cb.ext ks dU
 obtain ⟨g0,B0,l0,e0,g1,B1,l1,e1,g2,B2,l2,e2,g3,B3,l3,e3,rfl⟩:=Gd.four hcg hcl
 refine iC (new:=[.slice Ax nx cx,.slice Ay ny cy,.bool g0,.slice B0 l0 e0,.bool g1,.slice B1 l1 e1,.bool g2,.slice B2 l2 e2,.bool g3,.slice B3 l3 e3]) ks rfl rfl rfl rfl rfl rfl (by kernel_rfl) rfl (by simp [Value.oneCell']) trivial ?_
 have x9:Xt [Ns] w8 (w8.setRow Ns ([.slice Ax nx cx,.slice Ay ny cy,.bool g0,.slice B0 l0 e0,.bool g1,.slice B1 l1 e1,.bool g2,.slice B2 l2 e2,.bool g3,.slice B3 l3 e3]:List Value).toArray):=Xt.put ks (jq (yJ _ _ _) (jq (yJ _ _ _) (aD (aD (aD (aD aK)))))) (by simp) _
 replace ks:=Cb.put ks ([.slice Ax nx cx,.slice Ay ny cy,.bool g0,.slice B0 l0 e0,.bool g1,.slice B1 l1 e1,.bool g2,.slice B2 l2 e2,.bool g3,.slice B3 l3 e3])
 replace kr:=x9.cb (Cb.ext kr (dP.below dU)) (by simpa using hrs)
 replace hE:=(hE.below (dP.below dU)).xt x9 (by simpa using hws)
 replace hx:=Un.kp hx x9.kp
 replace hy:=Un.kp hy x9.kp
 generalize w8.setRow Ns ([.slice Ax nx cx,.slice Ay ny cy,.bool g0,.slice B0 l0 e0,.bool g1,.slice B1 l1 e1,.bool g2,.slice B2 l2 e2,.bool g3,.slice B3 l3 e3]:List Value).toArray=w9 at *
 refine Pl.aj ?_
 refine Pl.uT (by kernel_rfl) ?_
 repeat refine Pl.ay ?_
 repeat refine Pl.ay ?_
 refine Pl.dM ?_
 refine Pl.sH 0 ?_
 refine Pl.sI ?_
 obtain ⟨A5,c5,e5,-⟩:=Un.sh hy
 injection e5 with e51 e52 e53
 subst e52
 repeat refine Pl.ay ?_
 refine Pl.ak (by kernel_rfl) ?_
 refine bL trivial rfl rfl rfl rfl rfl (xh _) ?_
 refine Pl.aH trivial rfl rfl rfl rfl rfl (Cb.jZ (j:=1) ks rfl) ?_
 refine eT trivial rfl rfl rfl rfl rfl ?_
 refine Pl.aN (v:=.bool false) trivial rfl rfl rfl rfl rfl rfl (fun X=>zR (by unfold Sn at hla hlb;rw [decide_eq_false_iff_not];omega) X) ?_
 refine Pl.aj ?_
 repeat refine Pl.ay ?_
 refine Pl.bn rfl ?_
 repeat refine Pl.ay ?_
 refine Pl.lD ?_
 repeat refine Pl.ay ?_
 refine Pl.ak (by kernel_rfl) ?_
 refine Pl.aH trivial rfl rfl rfl rfl rfl (Cb.load ks _ _ rfl rfl (by kernel_rfl)) ?_
 refine iC (new:=[.slice Ax nx cx,.slice Ay (limbs a).length cy,.bool g0,.slice B0 l0 e0,.bool g1,.slice B1 l1 e1,.bool g2,.slice B2 l2 e2,.bool g3,.slice B3 l3 e3]) kr rfl rfl rfl rfl rfl rfl (by kernel_rfl) rfl (by simp [Value.oneCell']) trivial ?_
 have xf:Xt [Nr] w9 (w9.setRow Nr ([.slice Ax nx cx,.slice Ay (limbs a).length cy,.bool g0,.slice B0 l0 e0,.bool g1,.slice B1 l1 e1,.bool g2,.slice B2 l2 e2,.bool g3,.slice B3 l3 e3]:List Value).toArray):=Xt.put kr (jq (yJ _ _ _) (jq (yJ _ _ _) (aD (aD (aD (aD aK)))))) (by simp) _
 replace kr:=Cb.put kr ([.slice Ax nx cx,.slice Ay (limbs a).length cy,.bool g0,.slice B0 l0 e0,.bool g1,.slice B1 l1 e1,.bool g2,.slice B2 l2 e2,.bool g3,.slice B3 l3 e3])
 generalize w9.setRow Nr ([.slice Ax nx cx,.slice Ay (limbs a).length cy,.bool g0,.slice B0 l0 e0,.bool g1,.slice B1 l1 e1,.bool g2,.slice B2 l2 e2,.bool g3,.slice B3 l3 e3]:List Value).toArray=wf at *
 refine Pl.aj ?_
 have hwr:w.heap.size≤Nr:=hNr
 exact kE rfl rfl kr rfl rfl (by kernel_rfl) ⟨_,_,_,_,_,_,_,rfl,Un.kp hx xf.kp,Un.kp hy xf.kp,rfl,(aD (aD (aD (aD aK)))),by simp [Value.oneCell'],hE.xt xf (by simp;omega)⟩
theorem Iw (w:World) (va vb:Value) (a b:Nat) (ha:Un w va a) (hb:Un w vb b) (hla:Sn a 90) (hlb:Sn b 90) :
  Calls Tryz.prog 76 #[va,vb] w fun e w'=>∃ Ax nx cx Ay ny cy cs P Q,e = .returned (.agg (.slice Ax nx cx::.slice Ay ny cy::cs).toArray)∧Un w' (.slice Ax nx cx) P∧Un w' (.slice Ay ny cy) Q∧Sn P 90∧Sn Q 90∧Nat.gcd P Q=Nat.gcd a b∧cs.length=8∧(∀ c∈cs,gF c)∧(∀ c∈cs,c.oneCell'=true)∧Ext w w':=by
 by_cases hab:a<b
 · exact (RN w va vb a b ha hb hla hlb hab).mono fun e w' ⟨Ax,nx,cx,Ay,ny,cy,cs,h1,h2,h3,h4,h5,h7,h6⟩=>⟨Ax,nx,cx,Ay,ny,cy,cs,b,a,h1,h2,h3,hlb,hla,Nat.gcd_comm _ _,h4,h5,h7,h6⟩
 · exact (FB w va vb a b ha hb hla hlb hab).mono fun e w' ⟨Ax,nx,cx,Ay,ny,cy,cs,h1,h2,h3,h4,h5,h7,h6⟩=>⟨Ax,nx,cx,Ay,ny,cy,cs,a,b,h1,h2,h3,hla,hlb,rfl,h4,h5,h7,h6⟩
theorem RO (w:World) (va vb:Value) (a b:Nat) (ha:Un w va a) (hb:Un w vb b) (hla:Sn a 90) (hlb:Sn b 90) :
 Calls Tryz.prog 23 #[va,vb] w fun e w'=>∃ z,e = .returned z∧Un w' z (Nat.gcd a b)∧Ext w w':=Tv w va vb a b (Iw w va vb a b ha hb hla hlb)
theorem kY (w:World) (va vb:Value) (a b:Nat) (ha:Un w va a) (hb:Un w vb b) (hla:Sn a 90) (hlb:Sn b 90) :
  Calls Tryz.prog 22 #[va,vb] w fun e w'=>∃ z,e = .returned z∧Un w' z (Nat.gcd a b)∧Ext w w':=by
 obtain ⟨Aa,ca,rfl,-⟩:=Un.sh ha
 obtain ⟨Ab,cb,rfl,-⟩:=Un.sh hb
 have hmin:decide ((3000:Int)≤(if ((limbs b).length:Int)<((limbs a).length:Int) then ((limbs b).length:Int) else ((limbs a).length:Int)))=false:=by unfold Sn at hla hlb;rw [decide_eq_false_iff_not];split<;>omega
 refine Pl.aZ (n:=17) (vs:=[.slice Aa (limbs a).length ca,.slice Ab (limbs b).length cb]) Tryz.func22 rfl (by kernel_rfl) (by simp) ?_
 repeat refine Pl.ay ?_
 refine Pl.ak (by kernel_rfl) ?_
 refine Pl.aF trivial rfl rfl rfl rfl rfl ?_
 refine Pl.aj ?_
 repeat refine Pl.ay ?_
 refine Pl.ak (by kernel_rfl) ?_
 refine Pl.aA trivial rfl rfl rfl rfl rfl ?_
 refine eT trivial rfl rfl rfl rfl rfl ?_
 refine Pl.aA trivial rfl rfl rfl rfl rfl ?_
 refine eT trivial rfl rfl rfl rfl rfl ?_
 refine Cz trivial rfl rfl rfl rfl rfl rfl ?_
 refine Pl.aN (v:=.bool false) trivial rfl rfl rfl rfl rfl rfl (fun X=>Jy hmin X) ?_
 refine Pl.aj ?_
 repeat refine Pl.ay ?_
 refine Pl.bn rfl ?_
 repeat refine Pl.ay ?_
 refine Pl.bM ?_
 repeat refine Pl.ay ?_
 refine Pl.ak (by kernel_rfl) ?_
 refine Pl.aA trivial rfl rfl rfl rfl rfl ?_
 refine Pl.aA trivial rfl rfl rfl rfl rfl ?_
 refine Pl.az rfl rfl rfl rfl rfl (fun u X=>Pl.enters Tryz.func14 (by kernel_rfl) rfl u X) ?_
 refine Calls.mono (pE _ _ _ a b ha hb hla hlb) ?_
 rintro e w4 ⟨z,rfl,hz,hB4⟩
 refine ⟨_,rfl,trivial,?_⟩
 refine Pl.aF trivial rfl rfl rfl rfl rfl ?_
 refine Pl.aj ?_
 exact Pl.bI rfl rfl ⟨_,rfl,hz,hB4⟩
end Go.Proofs.YtfhcmggpojhegaaGreatDoor
namespace Go.Proofs.YtfhcmggpojhegaaGreatDoor
open Go.RowKit
set_option linter.all false
set_option maxRecDepth 100000
set_option maxHeartbeats 8000000
theorem iU {n:Nat}:(limbs n).length=0↔n=0:=⟨fun h=>oV.1 (List.eq_nil_of_length_eq_zero h),fun h=>by subst h;rw [bf];rfl⟩
/-! The head. -/
theorem aeU (w:World) (va vb:Value) (n m:Nat) (ha:Un w va n) (hb:Un w vb m) (hn:Sn n 398) (hm:Sn m 398) :
  Calls Tryz.prog 21 #[va,vb] w fun e w'=>∃ u,e = .returned u∧Un w' u (n*m)∧Ext w w':=by
 unfold Sn at hn hm
 refine (BP w va vb _ _ ha hb (by omega) (by omega)).mono ?_
 rw [aO,aO]
 rintro e w' ⟨⟨u,h1,h2⟩,h3⟩
 exact ⟨u,h1,h2,h3⟩
/-! Whole numbers. -/
/-! Digit sums. -/
section
variable {P:Program} {L:List Oper} {S:World→Prop} {K:List (Nat × Value)→World→Prop} {kk:Bool} {i m d:Nat} {o:Oper} {x y:Operand} {r:List (Bool × Nat × Nat)} {l:List (Nat × Value)} {w:World}
end
end Go.Proofs.YtfhcmggpojhegaaGreatDoor
namespace Go.Proofs.YtfhcmggpojhegaaGreatDoor
open Go.RowKit 
set_option linter.all false
set_option maxRecDepth 100000
set_option maxHeartbeats 8000000
theorem lcm_div {a b g m:Nat} (hg:Nat.gcd a b=g) (hm:a/g*b=m) (h0:a≠0):g≠0∧a%g=0∧m%a=0∧m%b=0∧m*g=a*b∧Nat.gcd m a=a∧Nat.gcd b m=b:=by
 have hg0:g≠0:=by rw [← hg];exact fun h=>h0 (Nat.eq_zero_of_gcd_eq_zero_left h)
 have hda:g∣a:=by rw [← hg];exact Nat.gcd_dvd_left a b
 have hdb:g∣b:=by rw [← hg];exact Nat.gcd_dvd_right a b
 have e:m*g=a*b:=by rw [← hm,Nat.mul_right_comm,Nat.div_mul_cancel hda]
 have d1:a∣m:=by
  obtain ⟨q,hq⟩:=hdb
  refine ⟨q,Nat.eq_of_mul_eq_mul_right (Nat.pos_of_ne_zero hg0) ?_⟩
  rw [e,hq,Nat.mul_assoc,Nat.mul_comm q]
 have d2:b∣m:=by rw [← hm];exact Nat.dvd_mul_left b _
 exact ⟨hg0,Nat.mod_eq_zero_of_dvd hda,Nat.mod_eq_zero_of_dvd d1,Nat.mod_eq_zero_of_dvd d2,e,Nat.gcd_eq_right d1,Nat.gcd_eq_left d2⟩
theorem Jm (w:World) (r0:Value) (xa:List Nat) (u0:U w r0 xa) (r1:Value) (xb:List Nat) (u1:U w r1 xb) :
  Calls Tryz.prog 4 #[.agg #[r0,r1]] w fun e w'=>e = .returned (.bool true)∧Ext w w':=by
 obtain ⟨a,da⟩:∃ q,lF xa 25=q:=⟨_,rfl⟩
 have la:Sn a 25:=by rw [← da];exact jS xa 25 u0.lim
 obtain ⟨b,db⟩:∃ q,lF xb 25=q:=⟨_,rfl⟩
 have lb:Sn b 25:=by rw [← db];exact jS xb 25 u1.lim
 obtain ⟨g,qg⟩:∃ q,Nat.gcd a b=q:=⟨_,rfl⟩
 obtain ⟨m,qm⟩:∃ q,a/g*b=q:=⟨_,rfl⟩
 have lg:Sn g 25:=by rw [← qg];exact la.gcd lb
 have lm:Sn m 50:=by rw [← qm];exact (la.down (Nat.div_le_self _ _)).mul lb (by decide)
 refine Pl.aZ (n:=118) (vs:=[.agg #[r0,r1]]) Tryz.func4 rfl (by kernel_rfl) (by simp) ?_
 repeat refine Pl.ay ?_
 refine Pl.ak (by kernel_rfl) ?_
 refine Pl.AR (cs:=[r0,r1]) rfl rfl rfl rfl rfl rfl (fun Y hY=>trivial) ?_
 intro N1 w1 hE1 Uc jF
 have uU:=Pl.Cb.lt jF
 have X0:=Pl.Ex.size hE1
 refine Pl.aG trivial rfl ?_
 refine Pl.aj ?_
 repeat refine Pl.ay ?_
 refine Pl.ak (by kernel_rfl) ?_
 refine Pl.az rfl rfl rfl rfl rfl (fun u X=>Pl.enters Tryz.func8 (by kernel_rfl) rfl u X) ?_
 refine Calls.mono (pF _) ?_
 rintro e w2 ⟨rfl,hE2⟩
 have WY:=Pl.Ex.size hE2
 refine ⟨_,rfl,trivial,?_⟩
 refine Pl.aG trivial rfl ?_
 refine Pl.aj ?_
 repeat refine Pl.ay ?_
 refine Pl.ak (by kernel_rfl) ?_
 refine Pl.sU (s:=1) (j:=0) Tryz.underlying23 (by kernel_rfl) rfl (by omega) trivial rfl rfl rfl rfl rfl rfl ?_
 refine Pl.oI (v:=r0) Tryz.underlying22 rfl (Pl.Cb.at (j:=0) (Pl.Cb.ex jF hE2) rfl) trivial rfl rfl rfl rfl rfl ?_
 refine Pl.az rfl rfl rfl rfl rfl (fun u X=>Pl.enters Tryz.func9 (by kernel_rfl) rfl u X) ?_
 refine Calls.mono (nA _ _ xa 25 (U.below u0 (Pl.Ex.trans hE1 hE2)) (by decide) (by decide) a da) ?_
 rintro e w3 ⟨v2,rfl,hv2,bJ⟩
 have TD:=Pl.Ex.size bJ
 refine ⟨_,rfl,trivial,?_⟩
 refine Pl.aG trivial rfl ?_
 refine Pl.aj ?_
 repeat refine Pl.ay ?_
 refine Pl.ak (by kernel_rfl) ?_
 refine Pl.sU (s:=1) (j:=1) Tryz.underlying23 (by kernel_rfl) rfl (by omega) trivial rfl rfl rfl rfl rfl rfl ?_
 refine Pl.oI (v:=r1) Tryz.underlying22 rfl (Pl.Cb.at (j:=1) (Pl.Cb.ex jF (Pl.Ex.trans hE2 bJ)) rfl) trivial rfl rfl rfl rfl rfl ?_
 refine Pl.az rfl rfl rfl rfl rfl (fun u X=>Pl.enters Tryz.func9 (by kernel_rfl) rfl u X) ?_
 refine Calls.mono (nA _ _ xb 25 (U.below u1 (Pl.Ex.trans hE1 (Pl.Ex.trans hE2 bJ))) (by decide) (by decide) b db) ?_
 rintro e w4 ⟨v3,rfl,hv3,bX⟩
 have TH:=Pl.Ex.size bX
 refine ⟨_,rfl,trivial,?_⟩
 refine Pl.aG trivial rfl ?_
 refine Pl.aj ?_
 repeat refine Pl.ay ?_
 refine Pl.ak (by kernel_rfl) ?_
 refine Pl.aG trivial rfl ?_
 refine Pl.az rfl rfl rfl rfl rfl (fun u X=>Pl.enters Tryz.func14 (by kernel_rfl) rfl u X) ?_
 refine Calls.mono (pE _ _ _ a b (Un.below hv2 bX) hv3 (Sn.le la (by decide)) (Sn.le lb (by decide))) ?_
 rintro e w5 ⟨v4,rfl,hv4,bE⟩
 have Mw:=Pl.Ex.size bE
 replace hv4:=Un.as hv4 qg
 refine ⟨_,rfl,trivial,?_⟩
 refine Pl.aG trivial rfl ?_
 refine Pl.aj ?_
 repeat refine Pl.ay ?_
 refine Pl.ak (by kernel_rfl) ?_
 refine Pl.aG trivial rfl ?_
 obtain ⟨A5,c6,rfl⟩:=Un.Xf (Un.below hv2 (Pl.Ex.trans bX bE))
 refine Pl.pY Tryz.underlying22 trivial rfl rfl rfl rfl rfl ?_
 by_cases c7:((limbs a).length)=0
 · refine Pl.bV (v:=.bool true) (fun X=>Pl.gL (Pl.e_t (by omega)) X) trivial rfl rfl rfl rfl rfl rfl ?_
   refine Pl.aG trivial rfl ?_
   refine Pl.aj ?_
   repeat refine Pl.ay ?_
   refine Pl.cK rfl ?_
   repeat refine Pl.ay ?_
   refine Pl.ak (by kernel_rfl) ?_
   refine Pl.aG trivial rfl ?_
   refine Pl.az rfl rfl rfl rfl rfl (fun u X=>Pl.enters Tryz.func13 (by kernel_rfl) rfl u X) ?_
   refine Calls.mono (jA _ _ _ a b (Un.below hv2 (Pl.Ex.trans bX bE)) (Un.below hv3 bE) (Sn.le la (by decide)) (Sn.le lb (by decide)) _ rfl) ?_
   rintro e w6 ⟨v8,rfl,DN,bu⟩
   have Cj:=Pl.Ex.size bu
   refine ⟨_,rfl,trivial,?_⟩
   refine Pl.az rfl rfl rfl rfl rfl (fun u X=>Pl.enters Tryz.func15 (by kernel_rfl) rfl u X) ?_
   refine Calls.mono (mK _ _ _ g (a+b) (Un.below hv4 bu) DN true (decide_eq_true (by rw [← qg,iU.1 c7,Nat.gcd_zero_left,Nat.zero_add]))) ?_
   rintro e w7 ⟨rfl,cB⟩
   have zS:=Pl.Ex.size cB
   refine ⟨_,rfl,trivial,?_⟩
   refine Pl.aG trivial rfl ?_
   refine Pl.aj ?_
   repeat refine Pl.ay ?_
   exact Pl.bI rfl rfl  (⟨rfl,(Pl.Ex.trans hE1 (Pl.Ex.trans hE2 (Pl.Ex.trans bJ (Pl.Ex.trans bX (Pl.Ex.trans bE (Pl.Ex.trans bu cB))))))⟩)
 · refine Pl.bV (v:=.bool false) (fun X=>Pl.gL (Pl.e_f (by omega)) X) trivial rfl rfl rfl rfl rfl rfl ?_
   refine Pl.aG trivial rfl ?_
   obtain ⟨A8,c9,rfl⟩:=Un.Xf (Un.below hv3 bE)
   refine Pl.pY Tryz.underlying22 trivial rfl rfl rfl rfl rfl ?_
   by_cases c10:((limbs b).length)=0
   · refine Pl.bV (v:=.bool true) (fun X=>Pl.gL (Pl.e_t (by omega)) X) trivial rfl rfl rfl rfl rfl rfl ?_
     refine Pl.aG trivial rfl ?_
     refine Pl.aj ?_
     repeat refine Pl.ay ?_
     refine Pl.cK rfl ?_
     repeat refine Pl.ay ?_
     refine Pl.ak (by kernel_rfl) ?_
     refine Pl.aG trivial rfl ?_
     refine Pl.az rfl rfl rfl rfl rfl (fun u X=>Pl.enters Tryz.func13 (by kernel_rfl) rfl u X) ?_
     refine Calls.mono (jA _ _ _ a b (Un.below hv2 (Pl.Ex.trans bX bE)) (Un.below hv3 bE) (Sn.le la (by decide)) (Sn.le lb (by decide)) _ rfl) ?_
     rintro e w6 ⟨v11,rfl,rO,bu⟩
     have Cj:=Pl.Ex.size bu
     refine ⟨_,rfl,trivial,?_⟩
     refine Pl.az rfl rfl rfl rfl rfl (fun u X=>Pl.enters Tryz.func15 (by kernel_rfl) rfl u X) ?_
     refine Calls.mono (mK _ _ _ g (a+b) (Un.below hv4 bu) rO true (decide_eq_true (by rw [← qg,iU.1 c10,Nat.gcd_zero_right,Nat.add_zero]))) ?_
     rintro e w7 ⟨rfl,cB⟩
     have zS:=Pl.Ex.size cB
     refine ⟨_,rfl,trivial,?_⟩
     refine Pl.aG trivial rfl ?_
     refine Pl.aj ?_
     repeat refine Pl.ay ?_
     exact Pl.bI rfl rfl  (⟨rfl,(Pl.Ex.trans hE1 (Pl.Ex.trans hE2 (Pl.Ex.trans bJ (Pl.Ex.trans bX (Pl.Ex.trans bE (Pl.Ex.trans bu cB))))))⟩)
   · refine Pl.bV (v:=.bool false) (fun X=>Pl.gL (Pl.e_f (by omega)) X) trivial rfl rfl rfl rfl rfl rfl ?_
     refine Pl.aG trivial rfl ?_
     refine Pl.aj ?_
     repeat refine Pl.ay ?_
     refine Pl.bn rfl ?_
     repeat refine Pl.ay ?_
     refine Pl.bM ?_
     repeat refine Pl.ay ?_
     refine Pl.ak (by kernel_rfl) ?_
     refine Pl.aG trivial rfl ?_
     refine Pl.az rfl rfl rfl rfl rfl (fun u X=>Pl.enters Tryz.func16 (by kernel_rfl) rfl u X) ?_
     refine Calls.mono (Bg _ _ _ a g _ _ (Un.below hv2 (Pl.Ex.trans bX bE)) hv4 (Sn.le la (by decide)) (Sn.le lg (by decide)) (lcm_div qg qm (fun h9=>c7 (iU.2 h9))).1 rfl rfl) ?_
     rintro e w6 ⟨⟨v11,v12,rfl,rO,pX⟩,bu⟩
     have Cj:=Pl.Ex.size bu
     replace pX:=Un.as pX (lcm_div qg qm (fun h9=>c7 (iU.2 h9))).2.1
     refine ⟨_,rfl,trivial,?_⟩
     refine Pl.aG trivial rfl ?_
     refine Pl.aj ?_
     repeat refine Pl.ay ?_
     refine Pl.ak (by kernel_rfl) ?_
     refine Pl.aG trivial rfl ?_
     refine Pl.az rfl rfl rfl rfl rfl (fun u X=>Pl.enters Tryz.func17 (by kernel_rfl) rfl u X) ?_
     refine Calls.mono (mulN _ _ _ (a/g) b _ rO (Un.below hv3 (Pl.Ex.trans bE bu)) (Sn.le (Sn.down la (Nat.div_le_self _ _):Sn (a/g) 25) (by decide)) (Sn.le lb (by decide)) rfl) ?_
     rintro e w7 ⟨v13,rfl,nk,cB⟩
     have zS:=Pl.Ex.size cB
     replace nk:=Un.as nk qm
     refine ⟨_,rfl,trivial,?_⟩
     refine Pl.aG trivial rfl ?_
     refine Pl.aj ?_
     repeat refine Pl.ay ?_
     refine Pl.ak (by kernel_rfl) ?_
     refine Pl.aG trivial rfl ?_
     refine Pl.az rfl rfl rfl rfl rfl (fun u X=>Pl.enters Tryz.func18 (by kernel_rfl) rfl u X) ?_
     refine Calls.mono (iI _ _ _ m a _ _ nk (Un.below hv2 (Pl.Ex.trans bX (Pl.Ex.trans bE (Pl.Ex.trans bu cB)))) (Sn.le lm (by decide)) (Sn.le la (by decide)) (fun h9=>c7 (iU.2 h9)) rfl rfl) ?_
     rintro e w8 ⟨⟨v14,v15,rfl,Vx,Es⟩,dL⟩
     have xg:=Pl.Ex.size dL
     replace Es:=Un.as Es (lcm_div qg qm (fun h9=>c7 (iU.2 h9))).2.2.1
     refine ⟨_,rfl,trivial,?_⟩
     refine Pl.aG trivial rfl ?_
     refine Pl.aj ?_
     repeat refine Pl.ay ?_
     refine Pl.ak (by kernel_rfl) ?_
     refine Pl.aG trivial rfl ?_
     refine Pl.az rfl rfl rfl rfl rfl (fun u X=>Pl.enters Tryz.func19 (by kernel_rfl) rfl u X) ?_
     refine Calls.mono (Ce _ _ _ m b _ _ (Un.below nk dL) (Un.below hv3 (Pl.Ex.trans bE (Pl.Ex.trans bu (Pl.Ex.trans cB dL)))) (Sn.le lm (by decide)) (Sn.le lb (by decide)) (fun h9=>c10 (iU.2 h9)) rfl rfl) ?_
     rintro e w9 ⟨⟨v16,v17,rfl,adp,aj4⟩,fu⟩
     have PV:=Pl.Ex.size fu
     replace aj4:=Un.as aj4 (lcm_div qg qm (fun h9=>c7 (iU.2 h9))).2.2.2.1
     refine ⟨_,rfl,trivial,?_⟩
     refine Pl.aG trivial rfl ?_
     refine Pl.aj ?_
     repeat refine Pl.ay ?_
     refine Pl.ak (by kernel_rfl) ?_
     refine Pl.aG trivial rfl ?_
     refine Pl.bV (v:=.bool true) (fun X=>Pl.gL (Pl.e_t (by omega)) X) trivial rfl rfl rfl rfl rfl rfl ?_
     refine Pl.aG trivial rfl ?_
     refine Pl.bV (v:=.bool true) (fun X=>Pl.gL (Pl.e_t (by omega)) X) trivial rfl rfl rfl rfl rfl rfl ?_
     refine Pl.aG trivial rfl ?_
     refine Pl.bV (v:=.bool true) (fun X=>Pl.gL (Pl.e_t (by omega)) X) trivial rfl rfl rfl rfl rfl rfl ?_
     refine Pl.aG trivial rfl ?_
     obtain ⟨A18,c19,rfl⟩:=oZ (Un.below pX (Pl.Ex.trans cB (Pl.Ex.trans dL fu)))
     refine Pl.pY Tryz.underlying22 trivial rfl rfl rfl rfl rfl ?_
     refine Pl.bV (v:=.bool true) (fun X=>Pl.gL (Pl.e_t (by omega)) X) trivial rfl rfl rfl rfl rfl rfl ?_
     refine Pl.aG trivial rfl ?_
     obtain ⟨A20,c21,rfl⟩:=oZ (Un.below Es fu)
     refine Pl.pY Tryz.underlying22 trivial rfl rfl rfl rfl rfl ?_
     refine Pl.bV (v:=.bool true) (fun X=>Pl.gL (Pl.e_t (by omega)) X) trivial rfl rfl rfl rfl rfl rfl ?_
     refine Pl.aG trivial rfl ?_
     obtain ⟨A22,c23,rfl⟩:=oZ aj4
     refine Pl.pY Tryz.underlying22 trivial rfl rfl rfl rfl rfl ?_
     refine Pl.bV (v:=.bool true) (fun X=>Pl.gL (Pl.e_t (by omega)) X) trivial rfl rfl rfl rfl rfl rfl ?_
     refine Pl.aG trivial rfl ?_
     refine Pl.az rfl rfl rfl rfl rfl (fun u X=>Pl.enters Tryz.func20 (by kernel_rfl) rfl u X) ?_
     refine Calls.mono (Yl _ _ _ m g (Un.below nk (Pl.Ex.trans dL fu)) (Un.below hv4 (Pl.Ex.trans bu (Pl.Ex.trans cB (Pl.Ex.trans dL fu)))) (Sn.le lm (by decide)) (Sn.le lg (by decide))) ?_
     rintro e uY ⟨v24,rfl,hv24,cZ⟩
     have yH:=Pl.Ex.size cZ
     refine ⟨_,rfl,trivial,?_⟩
     refine Pl.aG trivial rfl ?_
     refine Pl.az rfl rfl rfl rfl rfl (fun u X=>Pl.enters Tryz.func21 (by kernel_rfl) rfl u X) ?_
     refine Calls.mono (aeU _ _ _ a b (Un.below hv2 (Pl.Ex.trans bX (Pl.Ex.trans bE (Pl.Ex.trans bu (Pl.Ex.trans cB (Pl.Ex.trans dL (Pl.Ex.trans fu cZ))))))) (Un.below hv3 (Pl.Ex.trans bE (Pl.Ex.trans bu (Pl.Ex.trans cB (Pl.Ex.trans dL (Pl.Ex.trans fu cZ)))))) (Sn.le la (by decide)) (Sn.le lb (by decide))) ?_
     rintro e BU ⟨v25,rfl,hv25,dw⟩
     have xR:=Pl.Ex.size dw
     refine ⟨_,rfl,trivial,?_⟩
     refine Pl.az rfl rfl rfl rfl rfl (fun u X=>Pl.enters Tryz.func15 (by kernel_rfl) rfl u X) ?_
     refine Calls.mono (mK _ _ _ (m*g) (a*b) (Un.below hv24 dw) hv25 true (decide_eq_true (lcm_div qg qm (fun h9=>c7 (iU.2 h9))).2.2.2.2.1)) ?_
     rintro e w12 ⟨rfl,fV⟩
     have Fw:=Pl.Ex.size fV
     refine ⟨_,rfl,trivial,?_⟩
     refine Pl.aG trivial rfl ?_
     refine Pl.az rfl rfl rfl rfl rfl (fun u X=>Pl.enters Tryz.func22 (by kernel_rfl) rfl u X) ?_
     refine Calls.mono (kY _ _ _ m a (Un.below nk (Pl.Ex.trans dL (Pl.Ex.trans fu (Pl.Ex.trans cZ (Pl.Ex.trans dw fV))))) (Un.below hv2 (Pl.Ex.trans bX (Pl.Ex.trans bE (Pl.Ex.trans bu (Pl.Ex.trans cB (Pl.Ex.trans dL (Pl.Ex.trans fu (Pl.Ex.trans cZ (Pl.Ex.trans dw fV))))))))) (Sn.le lm (by decide)) (Sn.le la (by decide))) ?_
     rintro e IZ ⟨v26,rfl,V9,dh⟩
     have Fx:=Pl.Ex.size dh
     refine ⟨_,rfl,trivial,?_⟩
     refine Pl.aG trivial rfl ?_
     refine Pl.az rfl rfl rfl rfl rfl (fun u X=>Pl.enters Tryz.func15 (by kernel_rfl) rfl u X) ?_
     refine Calls.mono (mK _ _ _ (Nat.gcd m a) a V9 (Un.below hv2 (Pl.Ex.trans bX (Pl.Ex.trans bE (Pl.Ex.trans bu (Pl.Ex.trans cB (Pl.Ex.trans dL (Pl.Ex.trans fu (Pl.Ex.trans cZ (Pl.Ex.trans dw (Pl.Ex.trans fV dh)))))))))) true (decide_eq_true (lcm_div qg qm (fun h9=>c7 (iU.2 h9))).2.2.2.2.2.1)) ?_
     rintro e Qf ⟨rfl,bZ⟩
     have FK:=Pl.Ex.size bZ
     refine ⟨_,rfl,trivial,?_⟩
     refine Pl.aG trivial rfl ?_
     refine Pl.az rfl rfl rfl rfl rfl (fun u X=>Pl.enters Tryz.func23 (by kernel_rfl) rfl u X) ?_
     refine Calls.mono (RO _ _ _ b m (Un.below hv3 (Pl.Ex.trans bE (Pl.Ex.trans bu (Pl.Ex.trans cB (Pl.Ex.trans dL (Pl.Ex.trans fu (Pl.Ex.trans cZ (Pl.Ex.trans dw (Pl.Ex.trans fV (Pl.Ex.trans dh bZ)))))))))) (Un.below nk (Pl.Ex.trans dL (Pl.Ex.trans fu (Pl.Ex.trans cZ (Pl.Ex.trans dw (Pl.Ex.trans fV (Pl.Ex.trans dh bZ))))))) (Sn.le lb (by decide)) (Sn.le lm (by decide))) ?_
     rintro e Ph ⟨v27,rfl,hv27,bO⟩
     have Co:=Pl.Ex.size bO
     refine ⟨_,rfl,trivial,?_⟩
     refine Pl.aG trivial rfl ?_
     refine Pl.az rfl rfl rfl rfl rfl (fun u X=>Pl.enters Tryz.func15 (by kernel_rfl) rfl u X) ?_
     refine Calls.mono (mK _ _ _ (Nat.gcd b m) b hv27 (Un.below hv3 (Pl.Ex.trans bE (Pl.Ex.trans bu (Pl.Ex.trans cB (Pl.Ex.trans dL (Pl.Ex.trans fu (Pl.Ex.trans cZ (Pl.Ex.trans dw (Pl.Ex.trans fV (Pl.Ex.trans dh (Pl.Ex.trans bZ bO))))))))))) true (decide_eq_true (lcm_div qg qm (fun h9=>c7 (iU.2 h9))).2.2.2.2.2.2)) ?_
     rintro e w16 ⟨rfl,bH⟩
     have xU:=Pl.Ex.size bH
     refine ⟨_,rfl,trivial,?_⟩
     refine Pl.aG trivial rfl ?_
     refine Pl.aj ?_
     repeat refine Pl.ay ?_
     exact Pl.bI rfl rfl  (⟨rfl,(Pl.Ex.trans hE1 (Pl.Ex.trans hE2 (Pl.Ex.trans bJ (Pl.Ex.trans bX (Pl.Ex.trans bE (Pl.Ex.trans bu (Pl.Ex.trans cB (Pl.Ex.trans dL (Pl.Ex.trans fu (Pl.Ex.trans cZ (Pl.Ex.trans dw (Pl.Ex.trans fV (Pl.Ex.trans dh (Pl.Ex.trans bZ (Pl.Ex.trans bO bH)))))))))))))))⟩)
end Go.Proofs.YtfhcmggpojhegaaGreatDoor
namespace Go.Proofs.YtfhcmggpojhegaaGreatDoor
open Go.ChangeShapes Go.WideShapes Go.ChangeAt Go.RowKit
set_option linter.all false
set_option maxRecDepth 100000
set_option maxHeartbeats 8000000
abbrev jo:List (String × DataW Unit):=[("unicode/utf8.acceptRanges",Rows.laid_unicode_utf8_acceptRanges),("ziggurat/ntt.fields",Rows.laid_ziggurat_ntt_fields),("unicode/utf8.first",Rows.laid_unicode_utf8_first)]
theorem qI (os:Os) (args:Array Value):laidMetH Tryz.prog jo ((World.laidAll Tryz.prog os jo).forCall (fun _ _=>0) ⟨#[],args,[]⟩).memory:=by
 rw [MakeChecks.laidMetH_plain _ _ _ (by kernel_rfl)]
 exact laidMet_laidAll _ (by kernel_rfl) (by kernel_rfl)
end Go.Proofs.YtfhcmggpojhegaaGreatDoor
namespace Go.Proofs.YtfhcmggpojhegaaGreatDoor
open Go.ChangeShapes Go.WideShapes Go.ChangeAt Go.RowKit
set_option linter.all false
set_option maxRecDepth 100000
set_option maxHeartbeats 8000000
theorem ED (os:Os) (started:os.Started) (H:Type) (enc:TypeId × Value→H) :
  ReturnsInHanded {} Tryz.checked os 4 .any (fun w args=>(Rows.topLeastSpec.pre enc Tryz.prog Tryz.f4 [] false w args∧laidMetH Tryz.prog jo w)∧sizedMet enc Tryz.prog Tryz.f4 (OpenSpec.ofChange Rows.topLeastSpec) false w args)
   (Rows.topLeastSpec.post enc Tryz.prog Tryz.f4 false true false false):=by
 refine returnsInHanded_of_change_and (C:=Tryz.checked) (X:=fun w _=>laidMetH Tryz.prog jo w) (fun _ _ _ hh h=>h.of_heap hh) own started (by kernel_rfl) Tryz.func4
  (ChangeSpec.witness_shaped (enc:=enc) (C:=Tryz.checked) (os:=os) (X:=fun w _=>laidMetH Tryz.prog jo w) false (World.laidAll Tryz.prog os jo) #[.agg #[.slice none 0 0,.slice none 0 0]] 8 (World.laidAll_os _ _ _) (World.shaped_of_ZipB (by kernel_rfl) (by kernel_rfl)) (by kernel_rfl) (by kernel_rfl) (by kernel_rfl) (qI os _)) ?_
 intro W base args ds gs before hval0 hW _ _ hL _
 have hval:∀ (j:Nat) t v,Tryz.f4.params[j]?=some t→args[j]?=some v→Value.okWide Tryz.prog W .any base t v:=hval0
 have hW':=hW
 obtain ⟨p,q,uo,hV,rfl,hfz,hnd⟩:=hW
 have hlt:∀ x∈p++q,x.block<W.heap.size:=fun x hx=>hW'.lt x hx
 have hA:DataW.TrodAll enc Tryz.prog W 0 (fun _=>true) true Tryz.f4.params.toList args.toList ds p:=uo
 rw [Tryz.params4] at hA hval
 clear uo hval0
 obtain ⟨v0,vs0,d0,ds0,p0,q0,Q6,rfl,rfl,h0,r0⟩:=trodAll_cons hA
 obtain ⟨hn1,rfl,rfl⟩:=trodAll_nil r0
 subst hn1
 obtain rfl:args=#[v0]:=by cases args;simp_all
 obtain ⟨rfl,rfl⟩:=trodVars_none hV
 obtain ⟨r0a,r0b,x0a,x0b,hv0,u0a,u0b⟩:=vU (hval 0 23 v0 rfl rfl) h0 (fun x hx=>hlt x (by simp [hx]))
 subst hv0
 refine (Jm W _ _ u0a _ _ u0b).mono fun e W' ⟨he,hB⟩=>?_
 subst he
 exact ⟨_,rfl,qc hW' rfl (by rw [Tryz.params4];decide +kernel) rfl rfl rfl rfl hB⟩
theorem Jn:Rows.TopLeastSaid :=
 OpenClaim.holds_of_wide 4 Tryz.f4 rfl rfl rfl rfl rfl rfl rfl ⟨rfl,rfl,rfl,rfl,rfl⟩ rfl rfl rfl rfl rfl (by kernel_rfl) Tryz.func4 (by kernel_rfl)
  (of_decide_eq_true (by kernel_rfl)) (by unfold Func.isWrapper;first | (rw [if_pos (by decide +kernel)];kernel_rfl) | (rw [if_neg (by decide +kernel)];exact ⟨rfl,rfl⟩))
  (fun os started H enc _=>ED os started H enc)
theorem topLeast_holds:Rows.TopLeastCardSaid :=
 Claim7.holds_tied_plain_at .later [] [.data,.wider,.pinned] true Rows.topLeastCard.stood.harness false
  Jn (fun _ h=>by cases h) (by kernel_rfl) (fun _ h=>by cases h) topLeast_row_tie rfl ⟨rfl,rfl⟩ (by kernel_rfl) rfl
  (fun f fn hf hfn=>by
   obtain rfl:f = 4 := Option.some.inj ((show Tryz.prog.funcNamed "ziggurat/ziggurattop.TopLeast" = some 4 by kernel_rfl).symm.trans hf) |>.symm
   obtain rfl:fn=Tryz.f4 := (Option.some.inj (Tryz.func4.symm.trans hfn)).symm
   exact ⟨by kernel_rfl,fun j t ht=>by
    rw [Tryz.params4] at ht
    have hm:t∈[23]:=by simpa using Array.mem_of_getElem? ht
    have hall:([23].all fun u=>!Tryz.prog.wantsStandIn u)=true:=by kernel_rfl
    exact (show Tryz.prog.wantsStandIn t=false by simpa using List.all_eq_true.1 hall t hm)⟩)
  (by kernel_rfl)
end Go.Proofs.YtfhcmggpojhegaaGreatDoor
