/- TopBezout, and what it leans on beyond the base. -/
import Derived.Test.YtfhcmggpojhegaaGreatDoorBaa
import Derived.Test.YtfhcmggpojhegaaGreatDoorBab
import Derived.Test.YtfhcmggpojhegaaGreatDoorBac
import Derived.Test.YtfhcmggpojhegaaGreatDoorBad
import Derived.Test.YtfhcmggpojhegaaGreatDoorBah
import Derived.Test.YtfhcmggpojhegaaGreatDoorBaf
import Derived.Test.YtfhcmggpojhegaaGreatDoorBak
import Derived.Test.YtfhcmggpojhegaaGreatDoorBaj
import Derived.Test.YtfhcmggpojhegaaGreatDoorBan
import Derived.Test.YtfhcmggpojhegaaGreatDoorBaq
import Derived.Test.YtfhcmggpojhegaaGreatDoorBag
import Derived.Test.YtfhcmggpojhegaaGreatDoorBar
import Derived.Test.YtfhcmggpojhegaaGreatDoorBas
import Derived.Test.YtfhcmggpojhegaaGreatDoorBat
import Derived.Test.YtfhcmggpojhegaaGreatDoorBav
import Derived.Test.YtfhcmggpojhegaaGreatDoorBaw
import Derived.Test.YtfhcmggpojhegaaGreatDoorBax
import Derived.Test.YtfhcmggpojhegaaGreatDoorBbb
import Derived.Test.YtfhcmggpojhegaaGreatDoorBbg
import Derived.Test.YtfhcmggpojhegaaGreatDoorBau
import Derived.Test.YtfhcmggpojhegaaGreatDoorBbe
import Derived.Test.YtfhcmggpojhegaaGreatDoorBbf
import Derived.Test.YtfhcmggpojhegaaGreatDoorBbc
import Derived.Deep.RegionHeld3
import Derived.BigCall
import Derived.Deep.MidRow
import Derived.Deep.WholeRow
import Derived.Laws.CopyOwn
import Derived.WalkKit
import Derived.Laws.EntriesVeiled
import Derived.Deep.AppendSrc
import Derived.Lib.AppendZeros
import Derived.Laws.IdiomStrings
import Derived.Laws.StructEq
import Derived.RangeFuncSeq
import Derived.RangeFuncLeaves
import Derived.OrdersIn
import Derived.TacticsIn
import Derived.Below
import Derived.Laws.OwnMore
import Derived.Laws.AppendOwn
import Derived.Laws.BitsAllLaws
import Derived.Laws.Bits64
import Derived.Deep.AppendLies
import Derived.Deep.Draws
import Derived.Lib.Hide
import Derived.OwnWalk
import Derived.ProofKit
import Derived.OpenShut
import Derived.JoinedCond
import Derived.RegionTactic
import Derived.LoopTactic
import Derived.BigQuiet
import Derived.Deep.QuietTactic
import Derived.Outline
import Derived.SevenTiedAt
import Derived.LaidMore
import Derived.Stop.Joined
import Derived.JoinedOf
import Derived.JoinedAt
import Derived.Lib.SmallJoins
import Derived.Laws.IdiomArrays
import Derived.WideKeyPair
import Derived.WideKeyArr2
import Derived.Deep.Cut
import Derived.Scope
import Derived.Deep.OwnRows
import Derived.Lay
import Derived.LaidOnce

namespace Go.Proofs.YtfhcmggpojhegaaGreatDoor.Pl
open Go
set_option linter.all false
set_option maxRecDepth 100000
set_option maxHeartbeats 8000000
/-! Which orders a drawn region allows, by masks of bits: one check for the whole region. -/
section
variable {P:Program} {ops:Array Oper} {Q:Exit→Act→World→Prop} {S:World→Prop}
def ry (M:Nat) (rs:List Nat):List Tb→Nat→Bool
 | [],_=>true
 | t::l,j=>(rs.elem j||tb M j||!(Nat.beq (Nat.land t.A M) t.A))&&ry M rs l (j+1)
def rA (T:List Tb) (M i:Nat):Bool:=match T[i]? with
 | none=>false
 | some t=>!(tb M i)&&Nat.beq (Nat.land t.A M) t.A
def vS (T:List Tb) (M:Nat) (rs:List Nat):Bool:=ry M rs T 0&&(match rs with
 | []=>false
 | i::_=>rA T M i)
theorem kK {M:Nat} {rs:List Nat}:∀ (l:List Tb) (j:Nat),ry M rs l j=true→∀ (k:Nat) (t:Tb),l[k]?=some t→M.testBit (j+k)=false→Nat.beq (Nat.land t.A M) t.A=true→j+k∈rs
 | [],_,_,k,t,h,_,_=>by simp at h
 | x::l,j,h,k,t,hk,hM,hA=>by
  rw [ry,Bool.and_eq_true] at h
  cases k with
  | zero =>
   obtain rfl:x=t:=by simpa using hk
   rw [Nat.add_zero] at hM ⊢
   have h1:=h.1
   rw [yh,hM,hA,Bool.or_false,Bool.not_true,Bool.or_false] at h1
   simpa using h1
  | succ k =>
   have hs:j+(k+1)=(j+1)+k:=by omega
   rw [hs] at hM ⊢
   exact kK l (j+1) h.2 k t (by simpa using hk) hM hA
end
end Go.Proofs.YtfhcmggpojhegaaGreatDoor.Pl
namespace Go.Proofs.YtfhcmggpojhegaaGreatDoor.Pl
open Go
set_option linter.all false
set_option maxRecDepth 100000
set_option maxHeartbeats 8000000
/-! A region walked by a plan, its frame a list of what is known of it. -/
section
variable {P:Program} {L:List Oper} {S:World→Prop} {K:List (Nat × Value)→World→Prop} {Q:Exit→Act→World→Prop} {n f:Nat} {ds:List Deferred}
def qb (P:Program) (L:List Oper) (S:World→Prop) (Q:Exit→Act→World→Prop) (n:Nat) (ds:List Deferred) (f M:Nat) (l:List (Nat × Value)) (w:World):List Nat→Prop
 | []=>True
 | i::rs=>dO P L S (G P L S Q n ds f (Nat.lor M (Nat.shiftLeft 1 i))) ((false,i,M)::[]) l w∧qb P L S Q n ds f M l w rs
theorem oD {M:Nat} {l:List (Nat × Value)} {w:World}:∀ {rs:List Nat},qb P L S Q n ds f M l w rs→∀ i∈rs,dO P L S (G P L S Q n ds f (Nat.lor M (Nat.shiftLeft 1 i))) ((false,i,M)::[]) l w
 | [],_,i,hi=>by cases hi
 | j::rs,h,i,hi=>by
  rcases List.mem_cons.1 hi with rfl | hi
  · exact h.1
  · exact oD h.2 i hi
theorem NN (hd:∀ i o d,nth L i=some o→o.dst=some d→d<n) {M:Nat} {l:List (Nat × Value)} {w:World} (rs:List Nat) (hr:vS (tabs L.toArray) M rs=true) (h:qb P L S Q n ds f M l w rs):G P L S Q n ds (f+1) M l w:=by
 intro a listed ha hL hS
 unfold vS at hr
 rw [Bool.and_eq_true] at hr
 refine ⟨fun h0=>?_,fun j hj=>?_⟩
 · cases rs with
   | nil=>cases hr.2
   | cons i rs =>
    have h2:=hr.2
    simp only [rA] at h2
    cases ht:(tabs L.toArray)[i]? with
    | none=>rw [ht] at h2;cases h2
    | some t =>
     obtain ⟨o,ho,rfl⟩:=Ah ht
     rw [ht] at h2
     simp only [Bool.and_eq_true,Bool.not_eq_true'] at h2
     rw [yh] at h2
     have hin:i∈Region.ready .any L.toArray listed:=(kX (n:=0) hL).2 ⟨o,ho,h2.1,h2.2⟩
     rw [h0] at hin;cases hin
 · obtain ⟨o,ho,h1,h2⟩:=(kX (n:=0) hL).1 hj
   have hoi:nth L j=some o:=by rw [p9,← List.getElem?_toArray];exact ho
   have hlt:j<L.toArray.size:=(Array.getElem?_eq_some_iff.1 ho).1
   have hm:=kK (tabs L.toArray) 0 hr.1 j _ (Ae ho) (by rw [Nat.zero_add];exact h1) h2
   rw [Nat.zero_add] at hm
   exact Ai (k:=false) (m:=M) (hd j o · hoi) hoi ha hS (oD h j hm) (fun a l w ha hS h=>h a _ ha (hL.put hlt) hS)
end
end Go.Proofs.YtfhcmggpojhegaaGreatDoor.Pl
namespace Go.Proofs.YtfhcmggpojhegaaGreatDoor.Pl
open Go
set_option linter.all false
set_option maxRecDepth 100000
set_option maxHeartbeats 8000000
/-! A function without loops, walked with its frame as a list of what is known. -/
section
variable {P:Program} {Q:Exit→Act→World→Prop} {n:Nat} {ds:List Deferred} {cs:List Code} {l:List (Nat × Value)} {w:World} {x y:Code}
theorem aR {L:List Oper} {S:World→Prop} {f M:Nat}:qb P L S Q n ds f M l w []:=trivial
theorem aC {L:List Oper} {S:World→Prop} {f M i:Nat} {rs:List Nat} (h:dO P L S (G P L S Q n ds f (Nat.lor M (Nat.shiftLeft 1 i))) ((false,i,M)::[]) l w) (hs:qb P L S Q n ds f M l w rs):qb P L S Q n ds f M l w (i::rs):=⟨h,hs⟩
theorem bN {L:List Oper} {S:World→Prop} {f M:Nat} {Q:Exit→Act→World→Prop} (l':List (Nat × Value)) (hl:I9 l l') (h:G P L S Q n ds f M l' w):G P L S Q n ds f M l w:=fun a listed ha hL hS=>h a listed (ha.less (pO hl)) hL hS
theorem oN {L:List Oper} {S:World→Prop} {g M:Nat} {Q:Exit→Act→World→Prop} (f e:Nat) (R:List (Nat × Value)→World→Prop) (h1:∀ l' w',R l' w'→G P L S Q n ds f e l' w') (h2:(∀ l' w',R l' w'→G P L S Q n ds f e l' w')→G P L S Q n ds g M l w):G P L S Q n ds g M l w:=h2 h1
def rC (n:Nat) (L:List Oper):Bool:=Region.noSelect L.toArray&&vI n L
theorem aM {L:List Oper} {S:World→Prop} {M:Nat} (r:List (Bool × Nat × Nat)) (e f:Nat) {g:Nat} (hQ:∀ c (d:Option Tmp) v a w,Q (.panic c) (a.put d v) w→Q (.panic c) a w) (hk:rC n L=true) (hg:Nat.beq (Nat.add r.length f) g=true)
  (hp:yN (tabs L.toArray) e r M=true) (h:dO P L S (G P L S (Ks P Q cs) n ds f e) r l w):G P L S (Ks P Q cs) n ds g M l w:=by
 rw [rC,Bool.and_eq_true] at hk
 have:=Nw (f:=f) hk.1 (fun c d v a w hq=>kI.2 (hQ c d v a w (kI.1 hq))) (ji hk.2) r M l w hp h
 rwa [show r.length+f=g from (beq_iff _ _).1 hg] at this
theorem bS {L:List Oper} {S:World→Prop} {M:Nat} (rs:List Nat) (f:Nat) {g:Nat} (hk:rC n L=true) (hg:Nat.beq (Nat.succ f) g=true) (hr:vS (tabs L.toArray) M rs=true) (h:qb P L S (Ks P Q cs) n ds f M l w rs):G P L S (Ks P Q cs) n ds g M l w:=by
 rw [rC,Bool.and_eq_true] at hk
 have:=NN (ji hk.2) rs hr h
 rwa [show f+1=g from (beq_iff _ _).1 hg] at this
open Classical in
end
section
variable {P:Program} {L:List Oper} {S:World→Prop} {K:List (Nat × Value)→World→Prop} {k:Bool} {i m d:Nat} {o:Oper} {r:List (Bool × Nat × Nat)} {l:List (Nat × Value)} {w w':World} {v:Value}
end
end Go.Proofs.YtfhcmggpojhegaaGreatDoor.Pl
namespace Go.Proofs.YtfhcmggpojhegaaGreatDoor.Pl
open Go
set_option linter.all false
set_option maxRecDepth 100000
set_option maxHeartbeats 8000000
/-! Steps for any program: numbers, slices, memory. -/
section
variable {P:Program} {T:TypeId} {x y:Operand} {k k':IntKind} {a b c:Int} {v:Bool}
end
section
variable {P:Program} {T:TypeId} {x y:Operand} {a b c:Nat}
end
/-! Operations whose value follows from what is known alone. -/
section
variable {P:Program} {L:List Oper} {S:World→Prop} {K:List (Nat × Value)→World→Prop} {k:Bool} {i m d:Nat} {o:Oper} {r:List (Bool × Nat × Nat)} {l:List (Nat × Value)} {w w':World} {v:Value}
theorem sU {x y:Operand} {t e:TypeId} {ad:Addr} {n j s:Nat} {z:Int} {kd:IntKind} (hu:P.underlying t=some (.array n e)) (hs:(P.info? e).map (·.size)=some s) (hz:z=(j:Int)) (hj:j<n) (hS:S w) (ho:nth L i=some o) (hop:o.op = .indexAddr t x y) (hd:o.dst=some d) (hg:gd L l o.guard=some true)
  (hx:dF l x=some (.pointer (some ad))) (hy:dF l y=some (.int kd z)) (h:dO P L S K r ((d,.pointer (some (ad.add (j*s))))::l) w):dO P L S K ((k,i,m)::r) l w :=
 dB hS ho hd hg (fun ρ hρ X _=>by
  subst hz
  unfold execOp;rw [hop]
  refine fJ _ X ?_
  rw [hρ.dF hx,hρ.dF hy]
  have h0:(0:Int)≤(j:Int)∧(j:Int)<(n:Int):=by omega
  obtain ⟨inf,hi,hz⟩:=Option.map_eq_some_iff.1 hs
  subst hz
  simp [Instr.indexAt,run_underlying hu,asIntOf,h0,hj,sizeOf,typeInfo,hi,Result.andThen,Instr.sureAddr]) h
end
end Go.Proofs.YtfhcmggpojhegaaGreatDoor.Pl
namespace Go.Proofs.YtfhcmggpojhegaaGreatDoor.Pl
open Go Go.RowKit
set_option linter.all false
set_option maxRecDepth 100000
set_option maxHeartbeats 8000000
/-! Memory: variables, slices that are read, rows that grow, what is kept. -/
section
variable {P:Program}
end
section
variable {P:Program} {ok:Value→Prop} {w w':World} {base:Nat} {e:TypeId} {size:Nat} {v:Value} {n:Nat} {xs:List Value}
end
section
variable {P:Program} {L:List Oper} {S:World→Prop} {K:List (Nat × Value)→World→Prop} {k:Bool} {i m d:Nat} {o:Oper} {x y:Operand} {r:List (Bool × Nat × Nat)} {l:List (Nat × Value)} {w w':World} {v:Value}
theorem AR {T:TypeId} {u:Value} {cs:List Value} (ho:nth L i=some o) (hp:o.op = .box T x) (hd:o.dst=some d) (hg:gd L l o.guard=some true) (hx:dF l x=some u) (hc:u.cells=cs.toArray) (hS:∀ Y,Ex w Y→S Y)
  (h:∀ N w',Ex w w'→N=w.heap.size→Cb w' N T cs→dO P L S K r ((d,.pointer (some ⟨N,0,none⟩))::l) w'):dO P L S K ((false,i,m)::r) l w:=by
 have e1:=Ex.alloc w (.cells cs.toArray T)
 refine mh (w':=w.alloc (.cells cs.toArray T)) (v:=.pointer (some ⟨w.heap.size,0,none⟩)) ho hd hg (fun ρ hρ=>?_) (hS _ e1) (h _ _ e1 rfl (Cb.new w T cs))
 unfold execOp;rw [hp]
 refine kJ _ ?_
 rw [hρ.dF hx]
 simp [Instr.box,Sem.run_bind,newVar,newRow,hc]
theorem D6 {N q:Nat} {T ty:TypeId} {dd:TypeDesc} {cs part:List Value} (hC:∀ X,S X→Cb X N T cs) (hp':(cs.drop q).take part.length=part) (hu:P.underlying ty=some dd) (hdd:dd.isRow=true) (hi:(P.info? ty).map (·.size)=some part.length) (hS:S w) (ho:nth L i=some o) (hp:o.op = .load ty x) (hd:o.dst=some d) (hg:gd L l o.guard=some true) (hx:dF l x=some (.pointer (some ⟨N,q,none⟩)))
 (h:dO P L S K r ((d,.agg part.toArray)::l) w):dO P L S K ((k,i,m)::r) l w:=aX hS ho hp hd hg hx (fun X hX=>(hC X hX).load hp' hu hdd hi) h
theorem F6 {N q:Nat} {T ty:TypeId} {dd:TypeDesc} {cs part:List Value} (hC:Cb w N T cs) (hp':(cs.drop q).take part.length=part) (hu:P.underlying ty=some dd) (hdd:dd.isRow=true) (hi:(P.info? ty).map (·.size)=some part.length) (hS:S w) (ho:nth L i=some o) (hp:o.op = .load ty x) (hd:o.dst=some d) (hg:gd L l o.guard=some true) (hx:dF l x=some (.pointer (some ⟨N,q,none⟩)))
 (h:dO P L S K r ((d,.agg part.toArray)::l) w):dO P L S K ((false,i,m)::r) l w:=aH hS ho hp hd hg hx (hC.load hp' hu hdd hi) h
end
end Go.Proofs.YtfhcmggpojhegaaGreatDoor.Pl
namespace Go.Proofs.YtfhcmggpojhegaaGreatDoor.Pl
open Go
set_option linter.all false
set_option maxRecDepth 100000
set_option maxHeartbeats 8000000
/-! Ranges over functions: code inside a round, calls of yield, the statement itself. -/
section
variable {P:Program} {Q:Exit→Act→World→Prop} {ro:Option Nat} {n:Nat} {ds:List Deferred} {cs:List Code} {l:List (Nat × Value)} {w:World} {x y:Code}
/-! A loop of few rounds, one round after another. -/
/-! A return from inside of loops and blocks. -/
/-! Operations. -/
end
section
variable {P:Program} {L:List Oper} {S:World→Prop} {K:List (Nat × Value)→World→Prop} {Q:Exit→Act→World→Prop} {ro:Option Nat} {n f:Nat} {ds:List Deferred}
end
section
variable {P:Program} {Q:Exit→Act→World→Prop} {n:Nat} {ds:List Deferred} {cs:List Code} {l:List (Nat × Value)} {w:World}
theorem vT {fn:Func} {R:Ending→World→Prop}:∀ c (d:Option Tmp) v a w,DW P fn R (.panic c) (a.put d v) w→DW P fn R (.panic c) a w:=fun _ _ _ _ _ h=>h
end
end Go.Proofs.YtfhcmggpojhegaaGreatDoor.Pl
namespace Go.Proofs.YtfhcmggpojhegaaGreatDoor.Pl
open Go Go.RowKit
set_option linter.all false
set_option maxRecDepth 100000
set_option maxHeartbeats 8000000
/-! Small laws for the walk's printer (sx.py). -/
theorem e_f {a b:Int} (h:a≠b):(a==b)=false:=beq_false_of_ne h
section
variable {P:Program} {T:TypeId} {x y:Operand} {a b c:Nat} {za zb:Int}
end
section
variable {P:Program} {T:TypeId} {x y:Operand}
end
section
variable {P:Program} {n:Nat} {cs:List Code} {l:List (Nat × Value)} {w:World} {fn:Func} {R:Ending→World→Prop} {t t2 t3:Tmp} {N N2 N3:Nat} {ty ty2 ty3:TypeId} {v v2 v3:Value}
end
end Go.Proofs.YtfhcmggpojhegaaGreatDoor.Pl
namespace Go.Proofs.YtfhcmggpojhegaaGreatDoor
open Go.RowKit
set_option linter.all false
set_option maxRecDepth 100000
set_option maxHeartbeats 8000000
theorem gY {P:Program} (w:World) (base:Nat) (t ty e:TypeId) (i:TypeInfo) (size:Nat) (ht:P.underlying t=some (.slice e)) (hi:P.info? e=some i)
  (v:Value) (n c:Nat) (xs:List Value) (hown:w.ownsRow base e size v n xs) :
  (Builtin.append_ #[t,t] ty #[v,.slice none 0 c]).run P w = .ok v w:=by
 rcases hown.2 with ⟨rfl,rfl⟩ | ⟨g,cap,cur,rfl,_,_,hnc,_⟩
 · simp [Builtin.append_,run_underlying ht,sizeOf,typeInfo,hi,Builtin.lenOf,Builtin.firstCells]
 · simp [Builtin.append_,run_underlying ht,sizeOf,typeInfo,hi,Builtin.lenOf,Builtin.firstCells,hnc,storeCells]
theorem jP (w:World) (base:Nat) (v:Value) (o:List Nat) (hown:Own w base v o) (x:Value) (ys:List Nat) (hx:U w x ys) (hlen:o.length+ys.length≤35184372088832) (hbase:base≤w.heap.size) :
  ∃ v' w',(Builtin.append_ #[22,22] 22 #[v,x]).run Tryz.prog w = .ok v' w'∧Own w' base v' (o++ys)∧w.grownBy w' v.ownBlock:=by
 obtain ⟨i0,hi,hz0,hz1,hz2⟩:=info_parts pR
 obtain ⟨A,c,rfl,⟨h1,h2⟩,hlt,hr⟩:=hx
 cases A with
 | none =>
  have h0:ys.length=0:=by
   rcases Nat.eq_zero_or_pos ys.length with h0 | h0
   · exact h0
   · obtain ⟨ad,h,_⟩:=hr h0;cases h
  obtain rfl:=List.eq_nil_of_length_eq_zero h0
  refine ⟨v,w,gY w base 22 22 27 i0 1 Tryz.underlying22 hi v _ c _ hown,by rw [List.append_nil];exact hown,World.grownBy.refl w _⟩
 | some ad =>
  have hcells:∀ j u,(mX ys)[j]?=some u→w.cell? (ad.add j)=some u:=fun j u hj=>by
   have hjl:j<ys.length:=by
    rcases Nat.lt_or_ge j ys.length with h | h
    · exact h
    · rw [List.getElem?_eq_none (by rw [eG];exact h)] at hj;cases hj
   obtain ⟨afR,e',_,hcell⟩:=hr (by omega)
   replace e':=Option.some.inj e'
   subst e'
   rw [hcell j hjl,← qX ys hjl,hj]
  obtain ⟨v',w',hrun,hown',hg,_⟩:=run_append_own (P:=Tryz.prog) w base 22 22 27 i0 (.int .u32 0) 1 4 Tryz.underlying22 hi hz0 hz1 hz2 rfl (by decide) v o.length (mX o) hown ad ys.length c (mX ys) (by rw [eG,Nat.mul_one]) hcells
   (by intro u hu;obtain ⟨z,_,rfl⟩:=List.mem_map.1 hu;rfl) (by unfold maxLen;omega) (by omega) hbase
  exact ⟨v',w',hrun,by unfold Own;rw [jM,List.length_append];exact hown',hg⟩
end Go.Proofs.YtfhcmggpojhegaaGreatDoor
namespace Go.Proofs.YtfhcmggpojhegaaGreatDoor
open Go.ChangeShapes Go.WideShapes Go.ChangeAt Go.RowKit
set_option linter.all false
set_option maxRecDepth 100000
set_option maxHeartbeats 8000000
theorem laidOut:laidOutB Tryz.prog=true:=by kernel_rfl
theorem rD:Tryz.prog.cellsOf 27 = 1:=by kernel_rfl
theorem fD {H:Type} {enc:TypeId × Value→H} {W W':World} {sp:Nat→Bool} (hB:Ext W W'):∀ {ts:List TypeId} {vs:List Value} {ds:List (DataW H)} {ps:List MemPlace},
  (∀ t∈ts,Tryz.prog.readableRec t=true∧t<Tryz.prog.types.size)→DataW.TrodAll enc Tryz.prog W 0 (fun _=>true) true ts vs ds ps→(∀ p∈ps,p.block<W.heap.size)→(∀ p∈ps,sp p.block=true)→DataW.TrodAll enc Tryz.prog W' 0 sp true ts vs ds ps
 | [],[],[],_,_,h,_,_=>h
 | t::_,_::_,_::_,_,hT,⟨p,q,h1,h2,e⟩,hlt,hs=>⟨p,q,
  WideElems.Trod_stays laidOut (hT t (List.mem_cons_self ..)).1 (hT t (List.mem_cons_self ..)).2 h1 (fun x hx=>Below.same hB (hlt x (by rw [e];exact List.mem_append_left _ hx))) (fun x hx=>hs x (by rw [e];exact List.mem_append_left _ hx)),
  fD hB (fun t ht=>hT t (List.mem_cons_of_mem _ ht)) h2 (fun x hx=>hlt x (by rw [e];exact List.mem_append_right _ hx)) (fun x hx=>hs x (by rw [e];exact List.mem_append_right _ hx)),e⟩
theorem qc {H:Type} {enc:TypeId × Value→H} {f:Func} {s:ChangeSpec} {apart fresh handsOn again:Bool} {W W':World} {args:Array Value} {ds gs:List (DataW H)} {before:List MemPlace}
  (hW:DataW.Whole enc Tryz.prog f.params.toList s.vars apart W args.toList ds gs before) (hv:s.vars=[]) (hT:∀ t∈f.params.toList,Tryz.prog.readableRec t=true∧t<Tryz.prog.types.size)
  (hres:f.resultTypes=#[4]) (hfn:(s.fn H (ds++gs)).results=[.lit (.bool true)]) (hfa:(s.fn H (ds++gs)).args=ds) (Xe:(s.fn H (ds++gs)).vars=[]) (hB:Ext W W') :
  s.post enc Tryz.prog f apart fresh handsOn again W args (.bool true) W':=by
 have hlt:∀ p∈before,p.block<W.heap.size:=fun p hp=>hW.lt p hp
 have hold:∀ p∈before,(fun b=>decide (b<W.heap.size)) p.block=true:=fun p hp=>by simpa using hlt p hp
 have hres':∀ (b:Nat) (sp:Nat→Bool) (hd:Bool),DataW.TrodAll enc Tryz.prog W' b sp hd f.resultTypes.toList ((Value.bool true).resultList f.resultTypes.size) (s.fn H (ds++gs)).results []:=by
  intro b sp hd
  rw [hres,hfn]
  exact trodAll_mk1 (shut_bool Tryz.underlying4 _)
 have hW2:=hW
 obtain ⟨p,q,hA,hV,hpq,hz,hn⟩:=hW
 rw [hv] at hV
 obtain ⟨_,rfl⟩:=trodVars_none hV
 rw [List.append_nil] at hpq
 subst hpq
 have hargs:∀ sp:Nat→Bool,(∀ p'∈before,sp p'.block=true)→DataW.TrodAll enc Tryz.prog W' 0 sp true f.params.toList args.toList (s.fn H (ds++gs)).args before:=fun sp hs=>by
  rw [hfa];exact fD hB hT hA hlt hs
 have hvars:∀ sp:Nat→Bool,DataW.TrodVars enc Tryz.prog W' sp s.vars (s.fn H (ds++gs)).vars []:=fun sp=>by rw [hv,Xe];exact rfl
 refine ⟨ds,gs,before,[],before,[],hW2,hres' _ _ _,hargs _ hold,hvars _,World.keptBut_mono (fun p hp=>⟨hp,?_⟩) (Below.frame hB (·∈before)),fun _=>?_⟩
 · simpa using hp
 · refine ⟨ok_one hres rfl (okWide_bool_mk Tryz.underlying4 _),_,_,([]++before)++[],⟨[]++before,[],trodAll_append (hargs _ (fun _ _=>rfl)) (hres' _ _ _),hvars _,rfl,?_,?_⟩,?_⟩
   · intro b off hp
     have hin:MemPlace.cell b off∈before:=by simpa using hp
     rw [Below.frozen hB (hlt _ hin)]
     exact hz b off hin
   · intro ha
     have:=hn ha
     simpa using this
   · intro p hp _
     simpa using hp
end Go.Proofs.YtfhcmggpojhegaaGreatDoor
namespace Go.Proofs.YtfhcmggpojhegaaGreatDoor
open Go.ChangeShapes Go.WideShapes Go.ChangeAt Go.RowKit
set_option linter.all false
set_option maxRecDepth 100000
set_option maxHeartbeats 8000000
theorem fC {H:Type} {enc:TypeId × Value→H} {W:World} {fuel:Nat} {v:Value} {y:DataW H × List MemPlace} (hf:DataW.trod enc Tryz.prog W 0 (fun _=>true) true fuel 22 [v]=some y) :
  ∃ xs:List Nat,U W v xs:=by
 rcases open_ints Tryz.underlying22 Tryz.underlying27 rD hf with ⟨hcs,hx⟩ | ⟨a,len,cap',zs,hcs,_,hl,hm,hz,hx,hcell,hwz⟩
 · simp at hcs
   subst hcs
   exact ⟨[],U.Eo _ _ _⟩
 · simp at hcs
   subst hcs
   simp only [if_true] at hz
   have hlen:((zs.take len).map Int.toNat).length=len:=by simp;omega
   have hb:∀ z∈zs,0≤z∧z<4294967296:=fun z hzz=>by have:=bounds_u32 (hwz z hzz);omega
   refine ⟨(zs.take len).map Int.toNat,some a,cap',by rw [hlen],⟨by rw [hlen];exact hl,by rw [hlen];unfold maxLen at hm;omega⟩,?_,fun h0=>⟨a,rfl,?_,fun j hj=>?_⟩⟩
   · intro x hx'
     obtain ⟨z,hz1,rfl⟩:=List.mem_map.1 hx'
     have:=hb z (List.mem_of_mem_take hz1)
     omega
   · rw [hlen] at h0
     have hc:=hcell 0 (by omega)
     rw [gN] at hc
     unfold World.cell? at hc
     rcases Nat.lt_or_ge a.block W.heap.size with h | h
     · exact h
     · rw [Array.getElem?_eq_none h] at hc;cases hc
   · rw [hlen] at hj
     have hjz:j<zs.length:=by omega
     have e:lb ((zs.take len).map Int.toNat) j=(zs.getD j 0).toNat:=by
      simp [lb,hj,hjz]
     rw [hcell j hjz,e]
     have hmem:zs.getD j 0∈zs:=by simp [hjz]
     have:=hb _ hmem
     rw [show (((zs.getD j 0).toNat:Nat):Int)=zs.getD j 0 by omega]
end Go.Proofs.YtfhcmggpojhegaaGreatDoor
namespace Go.Proofs.YtfhcmggpojhegaaGreatDoor
open Go.RowKit
set_option linter.all false
set_option maxRecDepth 100000
set_option maxHeartbeats 8000000
attribute [local go_sem ↓] fU
attribute [local go_sem] bY
theorem gz (w:World) (v:Value) (xs:List Nat) (h:U w v xs) (hlen:xs.length≤1000000000) :
  Calls Tryz.prog 46 #[v] w fun e w'=>(∃ u,e = .returned u∧U w' u (limbs (val xs)))∧Below w.heap.size w w':=by
 have h':=h
 obtain ⟨A,c,rfl,⟨hc,hm⟩,hx,hr⟩:=h
 go_enter Tryz.func46,Tryz.ntmps46
 go_wp2
 go_loop [3] (fun n=>∃ k:Nat,k≤xs.length∧n = .int .i64 k∧Hid (∀ j,k≤j→j<xs.length→lb xs j=0)) (fun n=>(intOf n).toNat)
 case atStart=>exact ⟨xs.length,Nat.le_refl _,by first|rfl|(congr 2;omega),fun j h1 h2=>by omega⟩
 case round =>
  obtain ⟨k,hk,rfl,hz⟩:=hrel
  have hfin:(0<k→lb xs (k-1)≠0)→∃ v' w',(Builtin.append_ #[22,22] 22 #[.slice (some ⟨w.heap.size,0,none⟩) 0 0,.slice A k c]).run Tryz.prog (w.alloc (.cells #[] 27)) = .ok v' w'∧U w' v' (limbs (val xs))∧Below w.heap.size w w':=fun h2=>by
   have hB:Below w.heap.size w (w.alloc (.cells #[] 27)):=(Below.refl _ _).alloc (Nat.le_refl _) _
   have hown:Own (w.alloc (.cells #[] 27)) w.heap.size (.slice (some ⟨w.heap.size,0,none⟩) 0 0) []:=World.ownsRow_lit w #[] 0 (Nat.le_refl _) (Nat.zero_le _) rfl
   have hu:U w (.slice A k c) (xs.take k):=h'.take hk (by omega)
   have htl:(xs.take k).length=k:=by simp;omega
   obtain ⟨v',w',hrun,ho,hg⟩:=jP _ w.heap.size _ [] hown _ _ (hu.below hB) (by rw [htl];simp;omega) hB.size
   refine ⟨v',w',hrun,?_,hB.grown hg hB.size (fun j e=>by cases e;exact Nat.le_refl _)⟩
   rw [sV xs k hx hk hz.out h2]
   rw [List.nil_append] at ho
   exact ho.KG (fun x hx'=>hx x (List.mem_of_mem_take hx')) (by rw [htl];omega)
  rcases Nat.eq_zero_or_pos k with rfl | h0
  · obtain ⟨v',w',hrun,HU,HB⟩:=hfin (fun h=>absurd h (by omega))
    obtain ⟨t1,t2,t3⟩:=j5 hrun
    clear hfin hrun
    go_wp2
    go_ret
    exact ⟨⟨_,rfl,HU⟩,HB⟩
  · obtain ⟨ad,rfl,hb,hcell⟩:=hr (by omega)
    have hc1:=hcell (k-1) (by omega)
    by_cases hx0:lb xs (k-1)=0
    · have ht:((((lb xs (k-1):Nat)):Int)==0)=true:=by rw [hx0];rfl
      have HX:=Lib.hid hx0
      clear hx0 hfin
      go_wp2
      go_round
      case rel=>exact ⟨k-1,by omega,by go_num,fun j h1 h2=>by
       rcases Nat.lt_or_ge j k with h3 | h3
       · have:j=k-1:=by omega
         subst this;exact HX.out
       · exact hz.out j h3 h2⟩
      case measure=>simp [intOf];omega
    · have ht:((((lb xs (k-1):Nat)):Int)==0)=false:=by rw [beq_eq_false_iff_ne];omega
      obtain ⟨v',w',hrun,HU,HB⟩:=hfin (fun _=>hx0)
      obtain ⟨t1,t2,t3⟩:=j5 hrun
      clear hfin hrun hx0
      go_wp2
      go_ret
      exact ⟨⟨_,rfl,HU⟩,HB⟩
end Go.Proofs.YtfhcmggpojhegaaGreatDoor
namespace Go.Proofs.YtfhcmggpojhegaaGreatDoor
open Go.RowKit
set_option linter.all false
set_option maxRecDepth 100000
set_option maxHeartbeats 8000000
theorem mD (w:World) (v:Value) (xs:List Nat) (k:Int) (hk0:0≤k) (hk1:k≤1000000000) (h:U w v xs) :
  Calls Tryz.prog 9 #[v,.int .i64 k] w fun e w'=>(∃ u,e = .returned u∧Un w' u (lF xs k.toNat))∧Below w.heap.size w w':=by
 have h':=h
 obtain ⟨A,c,rfl,⟨hc,hm⟩,hx,hr⟩:=h
 clear hr
 by_cases hl:(xs.length:Int)≤k
 · have hu:=gz w _ xs h' (by omega)
   have HT:Hid (xs.take k.toNat=xs):=List.take_of_length_le (by omega)
   have hmin:min (xs.length:Int) k=xs.length:=by omega
   go_enter Tryz.func9,Tryz.ntmps9
   go_wp2_with (go_at_call 46;refine hu.mono ?_;rintro e w' ⟨⟨z,rfl,hz⟩,hB⟩)
   go_ret
   exact ⟨⟨_,rfl,by rw [Un,lF,HT.out];exact hz⟩,hB⟩
 · obtain ⟨k,rfl⟩:=Int.eq_ofNat_of_zero_le hk0
   have hu:=gz w _ _ (h'.take (k:=k) (c':=c) (by omega) (by omega)) (by rw [List.length_take];omega)
   have hmin:min (xs.length:Int) (k:Int)=k:=by omega
   go_enter Tryz.func9,Tryz.ntmps9
   go_wp2_with (go_at_call 46;refine hu.mono ?_;rintro e w' ⟨⟨z,rfl,hz⟩,hB⟩)
   go_ret
   exact ⟨⟨_,rfl,by rw [Un,lF,Int.toNat_natCast];exact hz⟩,hB⟩
end Go.Proofs.YtfhcmggpojhegaaGreatDoor
namespace Go.Proofs.YtfhcmggpojhegaaGreatDoor
open Go.RowKit
set_option linter.all false
set_option maxRecDepth 100000
set_option maxHeartbeats 8000000
theorem nA (w:World) (v:Value) (xs:List Nat) (k:Int) (h:U w v xs) (hk0:0≤k) (hk1:k≤1000000000) (n:Nat) (hn:lF xs k.toNat=n) :
  Calls Tryz.prog 9 #[v,.int .i64 k] w fun e w'=>∃ u,e = .returned u∧Un w' u n∧Ext w w':=by
 subst hn
 exact (mD w v xs k hk0 hk1 h).mono fun e w' ⟨⟨u,he,hu⟩,hb⟩=>⟨u,he,hu,hb⟩
end Go.Proofs.YtfhcmggpojhegaaGreatDoor
namespace Go.Proofs.YtfhcmggpojhegaaGreatDoor
open Go.RowKit
set_option linter.all false
set_option maxRecDepth 100000
set_option maxHeartbeats 8000000
theorem NP (w:World) (v:Value) (xs:List Nat) (k:Nat) (h:U w v xs) :
  Calls Tryz.prog 184 #[v,.int .i64 (k:Int)] w fun e w'=>e = .returned (.int .u64 (lb xs k:Nat))∧w=w':=by
 obtain ⟨A,c,rfl,⟨hc,hm⟩,hx,hr⟩:=h
 have hkn:decide (((k:Nat):Int)<0)=false:=by rw [decide_eq_false_iff_not];omega
 by_cases h1:k<xs.length
 · obtain ⟨ad,rfl,hb,hcell⟩:=hr (by omega)
   have hc1:=hcell k h1
   have hL:=eU hx k
   have hw:IntKind.u64.wrap ((lb xs k:Nat):Int)=((lb xs k:Nat):Int):=by rw [IntKind.wrap_u64];omega
   go_enter Tryz.func184,Tryz.ntmps184
   go_wp2
   go_ret
   exact ⟨by first | rfl | rw [hw],rfl⟩
 · have HF:Hid (lb xs k=0):=nN (by omega)
   have hd:decide ((xs.length:Int)≤(k:Int))=true:=by rw [decide_eq_true_iff];omega
   go_enter Tryz.func184,Tryz.ntmps184
   go_wp2
   go_ret
   exact ⟨by rw [HF.out];rfl,rfl⟩
end Go.Proofs.YtfhcmggpojhegaaGreatDoor
namespace Go.Proofs.YtfhcmggpojhegaaGreatDoor
open Go.RowKit
set_option linter.all false
set_option maxRecDepth 100000
set_option maxHeartbeats 8000000
theorem fI (w:World) (v:Value) (xs:List Nat) (i:Int) (k:Nat) (hi:i=(k:Int)) (h:U w v xs) :
  Calls Tryz.prog 184 #[v,.int .i64 i] w fun e w'=>e = .returned (.int .u64 (lb xs k:Nat))∧w=w':=by
 subst hi;exact NP w v xs k h
theorem EN {xs ys:List Nat} (hx:∀ x∈xs,x<4294967296) (hy:∀ x∈ys,x<4294967296) (p L:Nat) (h1:xs.length≤L) (h2:ys.length≤L) (hp:p<L)
  (ht:∀ j,p<j→j<L→lb xs j=lb ys j) (hlt:lb xs p<lb ys p):val xs<val ys:=by
 rw [← qd xs L h1,← qd ys L h2]
 have e:∀ (zs:List Nat) j,j<L→lb ((List.range L).map fun j=>lb zs j) j=lb zs j:=fun zs j hj=>by
  simp [lb,hj]
 refine rP (by simp) ?_ ?_ p (by simp;exact hp) ?_ ?_
 · intro x hx';obtain ⟨j,_,rfl⟩:=List.mem_map.1 hx';exact eU hx j
 · intro x hx';obtain ⟨j,_,rfl⟩:=List.mem_map.1 hx';exact eU hy j
 · intro j h3 h4;simp at h4;rw [e xs j h4,e ys j h4];exact ht j h3 h4
 · rw [e xs p hp,e ys p hp];exact hlt
theorem AU {xs ys:List Nat} (L:Nat) (h1:xs.length≤L) (h2:ys.length≤L) (ht:∀ j,j<L→lb xs j=lb ys j):val xs=val ys:=by
 rw [← qd xs L h1,← qd ys L h2]
 congr 1
 apply List.map_congr_left
 intro j hj
 exact ht j (by simpa using hj)
theorem QJ (w:World) (v u:Value) (xs ys:List Nat) (h:U w v xs) (g:U w u ys) (hl:xs.length≤1000000000) (hl2:ys.length≤1000000000) :
  Calls Tryz.prog 149 #[v,u] w fun e w'=>e = .returned (.int .i64 (dY (val xs:Nat) (val ys:Nat)))∧w=w':=by
 obtain ⟨A,c,rfl,⟨hc,hm⟩,hx,hr⟩:=id h
 obtain ⟨A2,c2,rfl,⟨hc2,hm2⟩,hx2,hr2⟩:=id g
 rcases Nat.lt_or_ge xs.length ys.length with hlen | hlen
 · have HL1:Hid (xs.length≤ys.length):=by rw [Hid];omega
   have HL2:Hid (ys.length≤ys.length):=by rw [Hid];omega
   go_enter Tryz.func149,Tryz.ntmps149
   go_wp2_with (fail)
   go_loop [5] (fun i=>∃ k:Nat,k≤ys.length∧i = .int .i64 ((k:Int)-1)∧Hid (∀ j,k≤j→j<ys.length→lb xs j=lb ys j)) (fun i=>(intOf i+1).toNat)
   case atStart=>exact ⟨ys.length,Nat.le_refl _,by first|rfl|(congr 2;omega),fun j h1 h2=>by omega⟩
   case round =>
    obtain ⟨k,hk,rfl,HE⟩:=hrel
    rcases Nat.eq_zero_or_pos k with rfl | h0
    · have HF:Hid (dY (val xs:Nat) (val ys:Nat)=0):=by
       rw [Hid,AU (ys.length) HL1.out HL2.out (fun j hj=>HE.out j (Nat.zero_le _) hj)];exact oW _
      go_wp2
      go_ret
      exact ⟨by rw [HF.out];rfl,rfl⟩
    · rcases Nat.lt_trichotomy (lb xs (k-1)) (lb ys (k-1)) with hc1 | hc1 | hc1
      · have HF:Hid (dY (val xs:Nat) (val ys:Nat) = -1):=kU (Int.ofNat_lt.2 (EN hx hx2 (k-1) (ys.length) HL1.out HL2.out (by omega) (fun j h1 h2=>HE.out j (by omega) h2) hc1))
        have hd:decide (((lb xs (k-1):Nat):Int)<((lb ys (k-1):Nat):Int))=true:=by rw [decide_eq_true_iff];omega
        go_wp2_with (fail)
        refine (fI _ _ xs _ (k-1) (by omega) h).mono ?_
        rintro e w' ⟨rfl,rfl⟩
        go_wp2_with (fail)
        refine (fI _ _ ys _ (k-1) (by omega) g).mono ?_
        rintro e w' ⟨rfl,rfl⟩
        go_wp2_with (fail)
        go_ret
        exact ⟨by rw [HF.out];rfl,rfl⟩
      · have hd:decide (((lb xs (k-1):Nat):Int)<((lb ys (k-1):Nat):Int))=false:=by rw [decide_eq_false_iff_not];omega
        have hd2:decide (((lb ys (k-1):Nat):Int)<((lb xs (k-1):Nat):Int))=false:=by rw [decide_eq_false_iff_not];omega
        have HC:=Lib.hid hc1
        have hle1:¬ lb xs (k-1)<lb ys (k-1):=by omega
        have hle2:¬ lb ys (k-1)<lb xs (k-1):=by omega
        clear hc1
        go_wp2_with (fail)
        refine (fI _ _ xs _ (k-1) (by omega) h).mono ?_
        rintro e w' ⟨rfl,rfl⟩
        go_wp2_with (fail)
        refine (fI _ _ ys _ (k-1) (by omega) g).mono ?_
        rintro e w' ⟨rfl,rfl⟩
        go_wp2_with (fail)
        refine (fI _ _ xs _ (k-1) (by omega) h).mono ?_
        rintro e w' ⟨rfl,rfl⟩
        go_wp2_with (fail)
        refine (fI _ _ ys _ (k-1) (by omega) g).mono ?_
        rintro e w' ⟨rfl,rfl⟩
        go_wp2_with (fail)
        go_round
        case rel=>exact ⟨k-1,by omega,by go_num,fun j h1 h2=>by
         rcases Nat.lt_or_ge j k with h3 | h3
         · have ej:j=k-1:=by omega
           rw [ej]
           exact HC.out
         · exact HE.out j h3 h2⟩
        case measure=>simp [intOf];omega
      · have HF:Hid (dY (val xs:Nat) (val ys:Nat)=1):=lW (Int.ofNat_lt.2 (EN hx2 hx (k-1) (ys.length) HL2.out HL1.out (by omega) (fun j h1 h2=>by have:=HE.out j (by omega) h2;exact this.symm) hc1))
        have hd:decide (((lb xs (k-1):Nat):Int)<((lb ys (k-1):Nat):Int))=false:=by rw [decide_eq_false_iff_not];omega
        have hd2:decide (((lb ys (k-1):Nat):Int)<((lb xs (k-1):Nat):Int))=true:=by rw [decide_eq_true_iff];omega
        go_wp2_with (fail)
        refine (fI _ _ xs _ (k-1) (by omega) h).mono ?_
        rintro e w' ⟨rfl,rfl⟩
        go_wp2_with (fail)
        refine (fI _ _ ys _ (k-1) (by omega) g).mono ?_
        rintro e w' ⟨rfl,rfl⟩
        go_wp2_with (fail)
        refine (fI _ _ xs _ (k-1) (by omega) h).mono ?_
        rintro e w' ⟨rfl,rfl⟩
        go_wp2_with (fail)
        refine (fI _ _ ys _ (k-1) (by omega) g).mono ?_
        rintro e w' ⟨rfl,rfl⟩
        go_wp2_with (fail)
        go_ret
        exact ⟨by rw [HF.out];rfl,rfl⟩
 · have HL1:Hid (xs.length≤xs.length):=by rw [Hid];omega
   have HL2:Hid (ys.length≤xs.length):=by rw [Hid];omega
   go_enter Tryz.func149,Tryz.ntmps149
   go_wp2_with (fail)
   go_loop [5] (fun i=>∃ k:Nat,k≤xs.length∧i = .int .i64 ((k:Int)-1)∧Hid (∀ j,k≤j→j<xs.length→lb xs j=lb ys j)) (fun i=>(intOf i+1).toNat)
   case atStart=>exact ⟨xs.length,Nat.le_refl _,by first|rfl|(congr 2;omega),fun j h1 h2=>by omega⟩
   case round =>
    obtain ⟨k,hk,rfl,HE⟩:=hrel
    rcases Nat.eq_zero_or_pos k with rfl | h0
    · have HF:Hid (dY (val xs:Nat) (val ys:Nat)=0):=by
       rw [Hid,AU (xs.length) HL1.out HL2.out (fun j hj=>HE.out j (Nat.zero_le _) hj)];exact oW _
      go_wp2
      go_ret
      exact ⟨by rw [HF.out];rfl,rfl⟩
    · rcases Nat.lt_trichotomy (lb xs (k-1)) (lb ys (k-1)) with hc1 | hc1 | hc1
      · have HF:Hid (dY (val xs:Nat) (val ys:Nat) = -1):=kU (Int.ofNat_lt.2 (EN hx hx2 (k-1) (xs.length) HL1.out HL2.out (by omega) (fun j h1 h2=>HE.out j (by omega) h2) hc1))
        have hd:decide (((lb xs (k-1):Nat):Int)<((lb ys (k-1):Nat):Int))=true:=by rw [decide_eq_true_iff];omega
        go_wp2_with (fail)
        refine (fI _ _ xs _ (k-1) (by omega) h).mono ?_
        rintro e w' ⟨rfl,rfl⟩
        go_wp2_with (fail)
        refine (fI _ _ ys _ (k-1) (by omega) g).mono ?_
        rintro e w' ⟨rfl,rfl⟩
        go_wp2_with (fail)
        go_ret
        exact ⟨by rw [HF.out];rfl,rfl⟩
      · have hd:decide (((lb xs (k-1):Nat):Int)<((lb ys (k-1):Nat):Int))=false:=by rw [decide_eq_false_iff_not];omega
        have hd2:decide (((lb ys (k-1):Nat):Int)<((lb xs (k-1):Nat):Int))=false:=by rw [decide_eq_false_iff_not];omega
        have HC:=Lib.hid hc1
        have hle1:¬ lb xs (k-1)<lb ys (k-1):=by omega
        have hle2:¬ lb ys (k-1)<lb xs (k-1):=by omega
        clear hc1
        go_wp2_with (fail)
        refine (fI _ _ xs _ (k-1) (by omega) h).mono ?_
        rintro e w' ⟨rfl,rfl⟩
        go_wp2_with (fail)
        refine (fI _ _ ys _ (k-1) (by omega) g).mono ?_
        rintro e w' ⟨rfl,rfl⟩
        go_wp2_with (fail)
        refine (fI _ _ xs _ (k-1) (by omega) h).mono ?_
        rintro e w' ⟨rfl,rfl⟩
        go_wp2_with (fail)
        refine (fI _ _ ys _ (k-1) (by omega) g).mono ?_
        rintro e w' ⟨rfl,rfl⟩
        go_wp2_with (fail)
        go_round
        case rel=>exact ⟨k-1,by omega,by go_num,fun j h1 h2=>by
         rcases Nat.lt_or_ge j k with h3 | h3
         · have ej:j=k-1:=by omega
           rw [ej]
           exact HC.out
         · exact HE.out j h3 h2⟩
        case measure=>simp [intOf];omega
      · have HF:Hid (dY (val xs:Nat) (val ys:Nat)=1):=lW (Int.ofNat_lt.2 (EN hx2 hx (k-1) (xs.length) HL2.out HL1.out (by omega) (fun j h1 h2=>by have:=HE.out j (by omega) h2;exact this.symm) hc1))
        have hd:decide (((lb xs (k-1):Nat):Int)<((lb ys (k-1):Nat):Int))=false:=by rw [decide_eq_false_iff_not];omega
        have hd2:decide (((lb ys (k-1):Nat):Int)<((lb xs (k-1):Nat):Int))=true:=by rw [decide_eq_true_iff];omega
        go_wp2_with (fail)
        refine (fI _ _ xs _ (k-1) (by omega) h).mono ?_
        rintro e w' ⟨rfl,rfl⟩
        go_wp2_with (fail)
        refine (fI _ _ ys _ (k-1) (by omega) g).mono ?_
        rintro e w' ⟨rfl,rfl⟩
        go_wp2_with (fail)
        refine (fI _ _ xs _ (k-1) (by omega) h).mono ?_
        rintro e w' ⟨rfl,rfl⟩
        go_wp2_with (fail)
        refine (fI _ _ ys _ (k-1) (by omega) g).mono ?_
        rintro e w' ⟨rfl,rfl⟩
        go_wp2_with (fail)
        go_ret
        exact ⟨by rw [HF.out];rfl,rfl⟩
end Go.Proofs.YtfhcmggpojhegaaGreatDoor
namespace Go.Proofs.YtfhcmggpojhegaaGreatDoor
open Go.RowKit
set_option linter.all false
set_option maxRecDepth 100000
set_option maxHeartbeats 8000000
theorem AX (w:World) (N:Nat) (hN:w.heap.size=N) (x:Nat) (h0:x≠0) (h:x<4294967296):Un (w.alloc (.cells #[.int .u32 (x:Nat)] 27)) (.slice (some ⟨N,0,none⟩) 1 1) x:=by
 subst hN
 have:=Fh w [x] (by simpa using h) (by simp)
 rw [Un,qY x h0 h]
 exact this
theorem Zf {x:Nat} (h:x<4294967296):(limbs x).length≤398:=Nat.le_trans (jO (k:=1) (by unfold LB;omega)) (by decide)
end Go.Proofs.YtfhcmggpojhegaaGreatDoor
namespace Go.Proofs.YtfhcmggpojhegaaGreatDoor
open Go.RowKit
set_option linter.all false
set_option maxRecDepth 100000
set_option maxHeartbeats 8000000
def Dz (w w':World) (e:Ending):Prop:=e = .returned (.tuple #[.slice none 0 0,.slice none 0 0,.int .i64 3])∧Ext w w'
theorem F7 (w:World) (va vb:Value) (hb:Un w vb 0) :
  Calls Tryz.prog 67 #[va,vb] w fun e w'=>Dz w w' e:=by
 unfold Dz
 obtain ⟨Ab,cb,rfl⟩:=oZ hb
 have gK:=Ext.refl w
 clear hb
 go_enter Tryz.func67,Tryz.ntmps67
 go_wp2
 go_ret3
 exact ⟨rfl,gK⟩
theorem F8 (w:World) (va vb:Value) (a:Nat) (ha:Un w va a) (hb:Un w vb 0) (hla:(limbs a).length≤1000) :
  Calls Tryz.prog 18 #[va,vb] w fun e w'=>Dz w w' e:=by
 have hS:=Lib.hid (F7 w va vb hb)
 unfold Dz at *
 obtain ⟨Aa,ca,rfl,hca⟩:=U.shape (U.dK ha)
 obtain ⟨Ab,cb,rfl⟩:=oZ hb
 clear ha hb
 generalize (limbs a).length=la at *
 have hm1:(if (la:Int)<0 then (la:Int) else 0)=0:=if_neg (by omega)
 go_enter Tryz.func18,Tryz.ntmps18
 go_wp2_with (fail)
 refine hS.out.mono ?_
 rintro e w1 ⟨rfl,hB⟩
 clear hS
 go_wp2
 go_ret3
 exact ⟨rfl,hB⟩
end Go.Proofs.YtfhcmggpojhegaaGreatDoor
namespace Go.Proofs.YtfhcmggpojhegaaGreatDoor
open Go.RowKit
set_option linter.all false
set_option maxRecDepth 100000
set_option maxHeartbeats 8000000
theorem rE (w:World):Un (w.alloc (.cells #[.int .u32 1] 27)) (.slice (some ⟨w.heap.size,0,none⟩) 1 1) 1:=AX w _ rfl 1 (by decide) (by decide)
theorem D7:(limbs 1).length≤1000000000:=Nat.le_trans (Zf (by decide)) (by decide)
end Go.Proofs.YtfhcmggpojhegaaGreatDoor
namespace Go.Proofs.YtfhcmggpojhegaaGreatDoor
open Go.ChangeShapes Go.WideShapes Go.ChangeAt Go.RowKit
set_option linter.all false
set_option maxRecDepth 100000
set_option maxHeartbeats 8000000
theorem kL {P:Program} {k e:TypeId} {n:Nat} {W:World} (hu:P.underlying k=some (.array n e)) {r:Reach} {b0:Nat} {v:Value} (h:Value.okWide P W r b0 k v):∃ xs:Array Value,v = .agg xs∧xs.size=P.cellsOf k:=by
 simp only [Value.okWide,hu] at h
 obtain ⟨cs,h1,h2,_⟩:=h
 exact ⟨cs,h1,h2⟩
theorem oF {H:Type} {enc:TypeId × Value→H} {P:Program} {w:World} {base:Nat} {spare:Nat→Bool} {held:Bool} {t e:TypeId} {fuel:Nat} {c0 c1:Value} {x:DataW H × List MemPlace} (ht:P.underlying t=some (.array 2 e)) (hce:P.cellsOf e=1)
  (h:DataW.trod enc P w base spare held fuel t [c0,c1]=some x) :
  ∃ y0 y1 n,DataW.trod enc P w base spare held n e [c0]=some y0∧DataW.trod enc P w base spare held n e [c1]=some y1:=by
 cases fuel with
 | zero=>simp [DataW.trod] at h
 | succ n =>
  unfold DataW.trod at h
  rw [ht] at h
  have r2:List.range 2=[0,1]:=rfl
  simp [r2,hce] at h
  obtain ⟨_,h⟩:=h
  cases h0:DataW.trod enc P w base spare held n e [c0] with
  | none=>simp [h0] at h
  | some y0 =>
   cases h1:DataW.trod enc P w base spare held n e [c1] with
   | none=>simp [h0,h1] at h
   | some y1=>exact ⟨y0,y1,n,h0,h1⟩
theorem vU {H:Type} {enc:TypeId × Value→H} {W:World} {base:Nat} {v:Value} {d:DataW H} {ps:List MemPlace} (hval:Value.okWide Tryz.prog W .any base 23 v) (h:DataW.Trod enc Tryz.prog W 0 (fun _=>true) true 23 v d ps)
  (hlt:∀ p∈ps,p.block<W.heap.size):∃ (va vb:Value) (xs ys:List Nat),v = .agg #[va,vb]∧U W va xs∧U W vb ys:=by
 obtain ⟨cs,rfl,hsz⟩:=kL Tryz.underlying23 hval
 rw [show Tryz.prog.cellsOf 23 = 2 by kernel_rfl] at hsz
 obtain ⟨l⟩:=cs
 match l,hsz with
 | [c0,c1],_ =>
  obtain ⟨fuel,hf⟩:=h
  obtain ⟨y0,y1,n,h0,h1⟩:=oF Tryz.underlying23 (show Tryz.prog.cellsOf 22 = 1 by kernel_rfl) hf
  obtain ⟨VS,u0⟩:=fC h0
  obtain ⟨VT,u1⟩:=fC h1
  exact ⟨c0,c1,VS,VT,rfl,u0,u1⟩
end Go.Proofs.YtfhcmggpojhegaaGreatDoor
namespace Go.Proofs.YtfhcmggpojhegaaGreatDoor
open Go.RowKit
set_option linter.all false
set_option maxRecDepth 100000
set_option maxHeartbeats 8000000
theorem ad3 (w:World) (v:Value) (xs:List Nat) (h:U w v xs) (hl:xs.length≤1000000000) (n:Nat) (hn:val xs=n) :
  Calls Tryz.prog 46 #[v] w fun e w'=>∃ u,e = .returned u∧Un w' u n∧Ext w w' :=
 (gz w v xs h hl).mono fun e w' ⟨⟨u,he,hu⟩,hw⟩=>⟨u,he,by rw [Un,← hn];exact hu,hw⟩
theorem Zg (w:World) (v u:Value) (n m:Nat) (h:Un w v n) (g:Un w u m) (hl:(limbs n).length≤1000000000) (hl2:(limbs m).length≤1000000000) (k:Int) (hk:dY n m=k) :
  Calls Tryz.prog 149 #[v,u] w fun e w'=>e = .returned (.int .i64 k)∧Ext w w' :=
 (QJ w v u _ _ h g hl hl2).mono fun e w' ⟨he,hw⟩=>⟨by rw [he,aO,aO,hk],by rw [← hw];exact Ext.refl w⟩
end Go.Proofs.YtfhcmggpojhegaaGreatDoor
namespace Go.Proofs.YtfhcmggpojhegaaGreatDoor
open Go.RowKit
set_option linter.all false
set_option maxRecDepth 100000
set_option maxHeartbeats 8000000
theorem kM (n:Nat):sg false n=(n:Int):=rfl
theorem Ib.new2 (w:World) (o:Obj) (b:Bool) (m:Value) (T:TypeId):Ib ((w.alloc o).alloc (.cells #[.bool b,m] T)) (w.heap.size+1) b m:=by
 have:=Ib.new (w.alloc o) b m T
 simpa using this
theorem Ib.vV (w:World) (o o2:Obj) (b:Bool) (m:Value) (T:TypeId):Ib (((w.alloc o).alloc o2).alloc (.cells #[.bool b,m] T)) (w.heap.size+1+1) b m:=by
 have:=Ib.new2 (w.alloc o) o2 b m T
 simpa using this
end Go.Proofs.YtfhcmggpojhegaaGreatDoor
namespace Go.Proofs.YtfhcmggpojhegaaGreatDoor
open Go.RowKit
set_option linter.all false
set_option maxRecDepth 100000
set_option maxHeartbeats 8000000
theorem QK (b:Bool) (n:Nat):sg (!b) n = -(sg b n):=by cases b<;>simp [sg]
theorem ahN (w:World) (v:Value) (z:Int) (h:Zn w v z) (y:Int) (hy : -z=y) :
  Calls Tryz.prog 148 #[v] w fun e w'=>∃ u,e = .returned u∧Zn w' u y∧Ext w w':=by
 obtain ⟨b,A,L,c,n,rfl,hu,hL,hz,hb,hza,hzn⟩:=h.open
 have hE0:=((Ext.refl w).alloc (.cells #[.bool b,.slice A L c] 48)).alloc (.cells #[.bool false,.slice none 0 0] 48)
 have hI0:=Ib.new2 w (.cells #[.bool b,.slice A L c] 48) false (.slice none 0 0) 48
 have lC:=(Ib.new w b (.slice A L c) 48).ext ((Ext.refl _).alloc (.cells #[.bool false,.slice none 0 0] 48))
 have hu0:=hu.below hE0
 have hM:=Lib.hid (fun W h=>iq W (!b) (.slice A L c) (limbs n) h n (aO n) y (by rw [QK,← hz];exact hy))
 obtain ⟨p0,p1,p2,p3,p4⟩:=id lC
 clear hz hb hza hzn hL hy h
 go_enter Tryz.func148,Tryz.ntmps148
 go_wp2_with (go_at_call 35;refine (hM.out _ hu0).mono ?_;rintro e w2 ⟨u,rfl,hz2,hE2⟩;obtain ⟨b2,A2,L2,c2,rfl⟩:=hz2.sh;have hI2:=hI0.ext hE2;obtain ⟨i0,i1,i2,i3,i4⟩:=id hI2)
 (try simp only [Exit.inBlock,Exit.then])
 refine bodyPost_ret (v:=.agg #[.bool b2,.slice A2 L2 c2]) (show (results _ _).run _ _=_ from ?_) rfl ⟨_,rfl,hz2.dA hI2 (aP _ _ _) _ _,(hE0.below hE2).dA (by simp) _ _⟩
 simp only [results]
 go_simp
theorem Ls (b:Bool) (n:Nat) (hb:b=true→n≠0):Int.sign (sg b n)=if n=0 then 0 else if b then -1 else 1:=by
 cases b
 · rw [kM]
   by_cases h:n=0
   · subst h;rfl
   · rw [if_neg h,if_neg (by decide)];exact Int.sign_eq_one_of_pos (by omega)
 · rw [um]
   have:=hb rfl
   rw [if_neg this,if_pos rfl];exact Int.sign_eq_neg_one_of_neg (by omega)
theorem F9 (w:World) (v:Value) (z:Int) (h:Zn w v z) (k:Int) (hk:Int.sign z=k) :
  Calls Tryz.prog 92 #[v] w fun e w'=>e = .returned (.int .i64 k)∧Ext w w':=by
 obtain ⟨b,A,L,c,n,rfl,hu,hL,hz,hb,hza,hzn⟩:=h.open
 have hE0:=(Ext.refl w).alloc (.cells #[.bool b,.slice A L c] 48)
 have hk2:=Ls b n hb
 rw [← hz,hk] at hk2
 have hcs:=nR n
 rw [hL] at hcs
 clear hz hza hzn hL hk h
 rcases hcs with ⟨h1,rfl⟩ | ⟨h1,h2⟩
 · rw [if_pos h1] at hk2
   subst hk2
   clear hb h1
   go_enter Tryz.func92,Tryz.ntmps92
   go_wp2
   go_ret
   exact ⟨rfl,hE0⟩
 · rw [if_neg h1] at hk2
   have h3:((L:Int)==0)=false:=by rw [beq_eq_false_iff_ne];omega
   have h4:¬ (L=0):=by omega
   cases b
   case' false=>rw [if_neg (by decide)] at hk2
   case' true=>rw [if_pos rfl] at hk2
   all_goals (
    subst hk2
    clear hb h1
    go_enter Tryz.func92,Tryz.ntmps92
    go_wp2
    go_ret
    exact ⟨rfl,hE0⟩)
end Go.Proofs.YtfhcmggpojhegaaGreatDoor
namespace Go.Proofs.YtfhcmggpojhegaaGreatDoor
open Go.RowKit
set_option linter.all false
set_option maxRecDepth 100000
set_option maxHeartbeats 8000000
theorem ahO {w X Y:World} {p:Bool} {mp:Value} (h:(w.heap.size+1<X.heap.size∧X.cell? ⟨w.heap.size,0,none⟩=some (.bool p)∧X.cell? ⟨w.heap.size,1,none⟩=some mp)∧Ext w X) (k:Ext X Y):(w.heap.size+1<Y.heap.size∧Y.cell? ⟨w.heap.size,0,none⟩=some (.bool p)∧Y.cell? ⟨w.heap.size,1,none⟩=some mp)∧Ext w Y:=by
 obtain ⟨⟨h0,h1,h2⟩,hx⟩:=h
 have hs:=k.size
 exact ⟨⟨by omega,(k.cell (p:=⟨w.heap.size,0,none⟩) (by show w.heap.size<_;omega)).trans h1,(k.cell (p:=⟨w.heap.size,1,none⟩) (by show w.heap.size<_;omega)).trans h2⟩,hx.below k⟩
theorem ahP {w X:World} {p:Bool} {mp x y:Value} (h:(w.heap.size+1<X.heap.size∧X.cell? ⟨w.heap.size,0,none⟩=some (.bool p)∧X.cell? ⟨w.heap.size,1,none⟩=some mp)∧Ext w X):(w.heap.size+1<((X.setCell ⟨w.heap.size+1,0,none⟩ x).setCell ⟨w.heap.size+1,1,none⟩ y).heap.size∧((X.setCell ⟨w.heap.size+1,0,none⟩ x).setCell ⟨w.heap.size+1,1,none⟩ y).cell? ⟨w.heap.size,0,none⟩=some (.bool p)∧((X.setCell ⟨w.heap.size+1,0,none⟩ x).setCell ⟨w.heap.size+1,1,none⟩ y).cell? ⟨w.heap.size,1,none⟩=some mp)∧Ext w ((X.setCell ⟨w.heap.size+1,0,none⟩ x).setCell ⟨w.heap.size+1,1,none⟩ y):=by
 obtain ⟨⟨h0,h1,h2⟩,hx⟩:=h
 have hc:∀ a:Addr,a.block≠w.heap.size+1→((X.setCell ⟨w.heap.size+1,0,none⟩ x).setCell ⟨w.heap.size+1,1,none⟩ y).cell? a=X.cell? a:=fun a ha=>by
  rw [World.cell?_setCell_other _ _ _ _ (fun e=>ha (by rw [← e])),World.cell?_setCell_other _ _ _ _ (fun e=>ha (by rw [← e]))]
 refine ⟨⟨by simpa using h0,?_,?_⟩,hx.dA (by omega) _ _⟩
 · rw [hc _ (by show w.heap.size≠_;omega)];exact h1
 · rw [hc _ (by show w.heap.size≠_;omega)];exact h2
theorem yO {w X Y:World} {p q:Bool} {mp mq:Value} (h:(w.heap.size+1+1<X.heap.size∧X.cell? ⟨w.heap.size,0,none⟩=some (.bool p)∧X.cell? ⟨w.heap.size,1,none⟩=some mp∧X.cell? ⟨w.heap.size+1,0,none⟩=some (.bool q)∧X.cell? ⟨w.heap.size+1,1,none⟩=some mq)∧Ext w X) (k:Ext X Y):(w.heap.size+1+1<Y.heap.size∧Y.cell? ⟨w.heap.size,0,none⟩=some (.bool p)∧Y.cell? ⟨w.heap.size,1,none⟩=some mp∧Y.cell? ⟨w.heap.size+1,0,none⟩=some (.bool q)∧Y.cell? ⟨w.heap.size+1,1,none⟩=some mq)∧Ext w Y:=by
 obtain ⟨⟨h0,h1,h2,h3,h4⟩,hx⟩:=h
 have hs:=k.size
 exact ⟨⟨by omega,(k.cell (p:=⟨w.heap.size,0,none⟩) (by show w.heap.size<_;omega)).trans h1,(k.cell (p:=⟨w.heap.size,1,none⟩) (by show w.heap.size<_;omega)).trans h2,(k.cell (p:=⟨w.heap.size+1,0,none⟩) (by show w.heap.size+1<_;omega)).trans h3,(k.cell (p:=⟨w.heap.size+1,1,none⟩) (by show w.heap.size+1<_;omega)).trans h4⟩,hx.below k⟩
theorem yP {w X:World} {p q:Bool} {mp mq x y:Value} (h:(w.heap.size+1+1<X.heap.size∧X.cell? ⟨w.heap.size,0,none⟩=some (.bool p)∧X.cell? ⟨w.heap.size,1,none⟩=some mp∧X.cell? ⟨w.heap.size+1,0,none⟩=some (.bool q)∧X.cell? ⟨w.heap.size+1,1,none⟩=some mq)∧Ext w X):(w.heap.size+1+1<((X.setCell ⟨w.heap.size+1+1,0,none⟩ x).setCell ⟨w.heap.size+1+1,1,none⟩ y).heap.size∧((X.setCell ⟨w.heap.size+1+1,0,none⟩ x).setCell ⟨w.heap.size+1+1,1,none⟩ y).cell? ⟨w.heap.size,0,none⟩=some (.bool p)∧((X.setCell ⟨w.heap.size+1+1,0,none⟩ x).setCell ⟨w.heap.size+1+1,1,none⟩ y).cell? ⟨w.heap.size,1,none⟩=some mp∧((X.setCell ⟨w.heap.size+1+1,0,none⟩ x).setCell ⟨w.heap.size+1+1,1,none⟩ y).cell? ⟨w.heap.size+1,0,none⟩=some (.bool q)∧((X.setCell ⟨w.heap.size+1+1,0,none⟩ x).setCell ⟨w.heap.size+1+1,1,none⟩ y).cell? ⟨w.heap.size+1,1,none⟩=some mq)∧Ext w ((X.setCell ⟨w.heap.size+1+1,0,none⟩ x).setCell ⟨w.heap.size+1+1,1,none⟩ y):=by
 obtain ⟨⟨h0,h1,h2,h3,h4⟩,hx⟩:=h
 have hc:∀ a:Addr,a.block≠w.heap.size+1+1→((X.setCell ⟨w.heap.size+1+1,0,none⟩ x).setCell ⟨w.heap.size+1+1,1,none⟩ y).cell? a=X.cell? a:=fun a ha=>by
  rw [World.cell?_setCell_other _ _ _ _ (fun e=>ha (by rw [← e])),World.cell?_setCell_other _ _ _ _ (fun e=>ha (by rw [← e]))]
 refine ⟨⟨by simpa using h0,?_,?_,?_,?_⟩,hx.dA (by omega) _ _⟩
 · rw [hc _ (by show w.heap.size≠_;omega)];exact h1
 · rw [hc _ (by show w.heap.size≠_;omega)];exact h2
 · rw [hc _ (by show w.heap.size+1≠_;omega)];exact h3
 · rw [hc _ (by show w.heap.size+1≠_;omega)];exact h4
end Go.Proofs.YtfhcmggpojhegaaGreatDoor
namespace Go.Proofs.YtfhcmggpojhegaaGreatDoor
open Go.RowKit
set_option linter.all false
set_option maxRecDepth 100000
set_option maxHeartbeats 8000000
theorem sW (p q:Bool) (n m:Nat) (hm:m≠0) (h:p=false∨n%m=0):sg (!(p==q)) (n/m)=sg p n/sg q m∧((n%m:Nat):Int)=sg p n%sg q m:=by
 have e:=Nat.div_add_mod n m
 have hl:=Nat.mod_lt n (show m>0 by omega)
 have hd:(n:Int)/(m:Int)=((n/m:Nat):Int):=(Int.natCast_ediv n m).symm
 have hr:(n:Int)%(m:Int)=((n%m:Nat):Int):=(Int.natCast_emod n m).symm
 cases p
 · cases q
   · exact ⟨hd.symm,hr.symm⟩
   · constructor
     · show -((n/m:Nat):Int)=(n:Int) / -(m:Int)
       rw [Int.ediv_neg,hd]
     · show ((n%m:Nat):Int)=(n:Int) % -(m:Int)
       rw [Int.emod_neg,hr]
 · have h0:n%m=0:=by
    rcases h with h | h
    · cases h
    · exact h
   rw [h0] at e hr ⊢
   have e2:(n:Int)=(m:Int)*((n/m:Nat):Int):=by rw [← Int.natCast_mul];omega
   have key : -(n:Int)/(m:Int) = -((n/m:Nat):Int) ∧ -(n:Int)%(m:Int)=0:=by
    have:=(Int.ediv_emod_unique (a := -(n:Int)) (b:=(m:Int)) (q := -((n/m:Nat):Int)) (r:=0) (by omega)).2 ⟨by rw [Int.mul_neg,← e2];omega,by omega,by omega⟩
    exact this
   cases q
   · exact ⟨key.1.symm,key.2.symm⟩
   · constructor
     · show ((n/m:Nat):Int) = -(n:Int) / -(m:Int)
       rw [Int.ediv_neg,key.1,Int.neg_neg]
     · show ((0:Nat):Int) = -(n:Int) % -(m:Int)
       rw [Int.emod_neg,key.2];rfl
theorem yQ (q:Bool) (n m:Nat) (hm:m≠0) (h:n%m≠0):sg (!(true==q)) (n/m+1)=sg true n/sg q m∧((m-n%m:Nat):Int)=sg true n%sg q m:=by
 have e:=Nat.div_add_mod n m
 have hl:=Nat.mod_lt n (show m>0 by omega)
 have e2:(n:Int)=(m:Int)*((n/m:Nat):Int)+((n%m:Nat):Int):=by rw [← Int.natCast_mul];omega
 generalize n%m=r at *
 generalize n/m=d at *
 have hmr:((m-r:Nat):Int)=(m:Int)-(r:Int):=by omega
 have e3:(m:Int) * -((d+1:Nat):Int) = -((m:Int)*(d:Int))-(m:Int):=by
  rw [Int.natCast_add,Int.mul_neg,Int.mul_add];omega
 have key : -(n:Int)/(m:Int) = -((d+1:Nat):Int) ∧ -(n:Int)%(m:Int)=((m-r:Nat):Int):=by
  have:=(Int.ediv_emod_unique (a := -(n:Int)) (b:=(m:Int)) (q := -((d+1:Nat):Int)) (r:=((m-r:Nat):Int)) (by omega)).2 ⟨by rw [e3,hmr,e2];omega,by omega,by omega⟩
  exact this
 cases q
 · exact ⟨key.1.symm,key.2.symm⟩
 · constructor
   · show ((d+1:Nat):Int) = -(n:Int) / -(m:Int)
     rw [Int.ediv_neg,key.1,Int.neg_neg]
   · show ((m-r:Nat):Int) = -(n:Int) % -(m:Int)
     rw [Int.emod_neg,key.2]
def ZdD (w w':World) (e:Ending) (q r:Int):Prop:=(∃ x y,e = .returned (.tuple #[x,y,.int .i64 0])∧Zn w' x q∧Zn w' y r)∧Ext w w'
theorem jQ (w:World) (va vb:Value) (a b:Int) (ha:Zn w va a) (hb:Zn w vb b) (hl:(limbs a.natAbs).length≤1000) (hl2:(limbs b.natAbs).length≤1000) (h0:b≠0) (x y:Int) (hx:a/b=x) (hy:a%b=y) :
  Calls Tryz.prog 84 #[va,vb] w fun e w'=>ZdD w w' e x y:=by
 unfold ZdD
 obtain ⟨p,A,L,c,n,rfl,hu,hL,hz,-,hza,hzn⟩:=ha.open
 obtain ⟨q,B,K,d,m,rfl,hv,hK,hz2,-,iF,jV⟩:=hb.open
 rw [hza] at hl
 rw [iF] at hl2
 have hm0:m≠0:=by omega
 obtain ⟨Q,hQ⟩:∃ Q,n/m=Q:=⟨_,rfl⟩
 obtain ⟨R,hR⟩:∃ R,n%m=R:=⟨_,rfl⟩
 have hQl:(limbs Q).length≤1000:=Nat.le_trans (eZ (by rw [← hQ];exact Nat.div_le_self _ _)) hl
 have hRm:R<m:=by rw [← hR];exact Nat.mod_lt _ (by omega)
 have hRl:(limbs R).length≤1000:=Nat.le_trans (eZ (by omega)) hl2
 have hE0:=((((Ext.refl w).alloc (.cells #[.bool p,.slice A L c] 48)).alloc (.cells #[.bool q,.slice B K d] 48)).alloc (.cells #[.bool false,.slice none 0 0] 48)).alloc (.cells #[.bool false,.slice none 0 0] 48)
 have hI0:=(Ib.vV w (.cells #[.bool p,.slice A L c] 48) (.cells #[.bool q,.slice B K d] 48) false (.slice none 0 0) 48).ext ((Ext.refl _).alloc (.cells #[.bool false,.slice none 0 0] 48))
 have hJ0:=Ib.vV (w.alloc (.cells #[.bool p,.slice A L c] 48)) (.cells #[.bool q,.slice B K d] 48) (.cells #[.bool false,.slice none 0 0] 48) false (.slice none 0 0) 48
 have hN:(w.alloc (.cells #[.bool p,.slice A L c] 48)).heap.size=w.heap.size+1:=by simp
 rw [hN] at hJ0
 have lC:=(Ib.new w p (.slice A L c) 48).ext ((((Ext.refl _).alloc (.cells #[.bool q,.slice B K d] 48)).alloc (.cells #[.bool false,.slice none 0 0] 48)).alloc (.cells #[.bool false,.slice none 0 0] 48))
 have nL:=(Ib.new2 w (.cells #[.bool p,.slice A L c] 48) q (.slice B K d) 48).ext (((Ext.refl _).alloc (.cells #[.bool false,.slice none 0 0] 48)).alloc (.cells #[.bool false,.slice none 0 0] 48))
 have hD:=Lib.hid (iI _ (.slice A L c) (.slice B K d) n m Q R (hu.below hE0) (hv.below hE0) hl hl2 hm0 hQ hR)
 have hv0:=hv.below hE0
 have hcs:=nR R
 obtain ⟨LR,VU⟩:∃ L,(limbs R).length=L:=⟨_,rfl⟩
 have Zh:=Lib.hid VU
 rw [VU] at hcs
 by_cases hsp:p=true∧R≠0
 · obtain ⟨rfl,hR0⟩:=hsp
   obtain ⟨k1,k2⟩:=yQ q n m hm0 (by rw [hR];exact hR0)
   rw [hQ,← hz,← hz2,hx] at k1
   rw [hR,← hz,← hz2,hy] at k2
   have hAd:=Lib.hid (fun W v u h g=>jA W v u Q 1 h g (by omega) D7 (Q+1) rfl)
   have hSb:=Lib.hid (fun W v h g=>vF W (.slice B K d) v m R h g (by omega) true (decide_eq_true (by omega)) (m-R) rfl)
   rw [show (!(true==q)) = !q by cases q<;>rfl] at k1
   have hM1:=Lib.hid (fun W v (h:Un W v (Q+1))=>iq W (!q) v (limbs (Q+1)) h (Q+1) (aO _) x k1)
   have hM2:=Lib.hid (fun W v (h:Un W v (m-R))=>iq W false v (limbs (m-R)) h (m-R) (aO _) y k2)
   have hlr:0<LR:=by omega
   have am1:(0:Int)<(LR:Int):=by omega
   clear hl hl2 hza hzn iF jV hz hz2 hL hK ha hb hu hv hN hx hy hQ hR h0 hm0 hcs VU k1 k2 hRm hR0
   unfold Dv at hD
   go_enter Tryz.func84,Tryz.ntmps84
   go_upto_region 7 with (first
    | (go_at_call 18;refine hD.out.mono ?_;rintro e w2 ⟨⟨vq,vr,rfl,yL,rX⟩,hE2⟩;obtain ⟨A2,c2,rfl,-⟩:=Un.sh yL;obtain ⟨A3,c3,rfl,-⟩:=Un.sh rX;rw [Zh.out] at rX ⊢;obtain ⟨p0,p1,p2,p3,p4⟩:=lC.ext hE2)
    | (go_at_call 13;refine (hAd.out _ _ _ (Un.below yL ((Ext.refl _).alloc _)) (rE _)).mono ?_;rintro e w4 ⟨u4,rfl,BV,bX⟩;have vW:=((Ext.refl w2).alloc (.cells #[.int .u32 1] 27)).below bX;obtain ⟨A4,c4,rfl,-⟩:=Un.sh BV;obtain ⟨q0,q1,q2,q3,q4⟩:=(nL.ext hE2).ext vW;have ahQ:=Un.below rX vW;have hv4:=(Un.below hv0 hE2).below vW)
    | (go_at_call 127;refine (hSb.out _ _ hv4 ahQ).mono ?_;rintro e w5 ⟨u5,rfl,NK,bE⟩;obtain ⟨A5,c5,rfl,-⟩:=Un.sh NK;obtain ⟨p0,p1,p2,p3,p4⟩:=((lC.ext hE2).ext vW).ext bE;obtain ⟨q0,q1,q2,q3,q4⟩:=((nL.ext hE2).ext vW).ext bE;have ahR:=Un.below BV bE))
   go_wp2_with (fail)
   refine (hM1.out _ _ ahR).mono ?_
   rintro e w6 ⟨u6,rfl,Zi,bu⟩
   obtain ⟨b6,A6,L6,c6,rfl⟩:=Zi.sh
   go_wp2_with (fail)
   refine (hM2.out _ _ (Un.below NK bu)).mono ?_
   rintro e w7 ⟨u7,rfl,Vp,cB⟩
   obtain ⟨b7,A7,L7,c7,rfl⟩:=Vp.sh
   have QL:=((((hI0.ext hE2).ext vW).ext bE).ext bu).ext cB
   have QM:=((((hJ0.ext hE2).ext vW).ext bE).ext bu).ext cB
   obtain ⟨i0,i1,i2,i3,i4⟩:=id QL
   obtain ⟨j0,j1,j2,j3,j4⟩:=id QM
   have Zj:=Lib.hid QL
   have Zk:=Lib.hid QM
   have hZ6:=Zi.below cB
   have hEE:=((((hE0.below hE2).below vW).below bE).below bu).below cB
   clear QL QM
   go_wp2
   (try simp only [Exit.inBlock,Exit.then])
   refine bodyPost_ret (v:=.tuple #[.agg #[.bool b6,.slice A6 L6 c6],.agg #[.bool b7,.slice A7 L7 c7],.int .i64 0]) (show (results _ _).run _ _=_ from ?_) rfl ⟨⟨_,_,rfl,(hZ6.dA Zj.out (aP _ _ _) _ _).dA (Zk.out.other (by omega) _ _) (aP _ _ _) _ _,(Vp.dA Zj.out (aP _ _ _) _ _).dA (Zk.out.other (by omega) _ _) (aP _ _ _) _ _⟩,(hEE.dA (by omega) _ _).dA (by omega) _ _⟩
   simp only [results]
   go_simp
 · have hpr:p=false∨R=0:=by
    cases p
    · exact .inl rfl
    · right
      rcases Nat.eq_zero_or_pos R with h | h
      · exact h
      · exact absurd ⟨rfl,by omega⟩ hsp
   obtain ⟨k1,k2⟩:=sW p q n m hm0 (by rw [hR];exact hpr)
   rw [hQ,← hz,← hz2,hx] at k1
   rw [hR,← hz,← hz2,hy] at k2
   have hM1:=Lib.hid (fun W v (h:Un W v Q)=>iq W (!(p==q)) v (limbs Q) h Q (aO _) x k1)
   have hM2:=Lib.hid (fun W v (h:Un W v R)=>iq W false v (limbs R) h R (aO _) y k2)
   have hcase:p=false∨(p=true∧LR=0):=by
    rcases hpr with h | h
    · exact .inl h
    · cases p
      · exact .inl rfl
      · exact .inr ⟨rfl,by omega⟩
   clear hl hl2 hza hzn iF jV hz hz2 hL hK ha hb hu hv hN hx hy hQ hR h0 hm0 hcs VU k1 k2 hRm hsp hpr
   unfold Dv at hD
   rcases hcase with rfl | ⟨rfl,rfl⟩
   case' inl=>rw [show (!(false==q))=q by cases q<;>rfl] at hM1
   case' inr=>rw [show (!(true==q)) = !q by cases q<;>rfl] at hM1
   all_goals (
    go_enter Tryz.func84,Tryz.ntmps84
    go_upto_region 7 with (first
     | (go_at_call 18;refine hD.out.mono ?_;rintro e w5 ⟨⟨vq,vr,rfl,yL,rX⟩,bE⟩;obtain ⟨A2,c2,rfl,-⟩:=Un.sh yL;obtain ⟨A3,c3,rfl,-⟩:=Un.sh rX;rw [Zh.out] at rX ⊢;obtain ⟨p0,p1,p2,p3,p4⟩:=lC.ext bE;obtain ⟨q0,q1,q2,q3,q4⟩:=nL.ext bE))
    go_wp2_with (fail)
    refine (hM1.out _ _ yL).mono ?_
    rintro e w6 ⟨u6,rfl,Zi,bu⟩
    obtain ⟨b6,A6,L6,c6,rfl⟩:=Zi.sh
    go_wp2_with (fail)
    refine (hM2.out _ _ (Un.below rX bu)).mono ?_
    rintro e w7 ⟨u7,rfl,Vp,cB⟩
    obtain ⟨b7,A7,L7,c7,rfl⟩:=Vp.sh
    have QL:=((hI0.ext bE).ext bu).ext cB
    have QM:=((hJ0.ext bE).ext bu).ext cB
    obtain ⟨i0,i1,i2,i3,i4⟩:=id QL
    obtain ⟨j0,j1,j2,j3,j4⟩:=id QM
    have Zj:=Lib.hid QL
    have Zk:=Lib.hid QM
    have hZ6:=Zi.below cB
    have hEE:=((hE0.below bE).below bu).below cB
    clear QL QM
    go_wp2
    (try simp only [Exit.inBlock,Exit.then])
    refine bodyPost_ret (v:=.tuple #[.agg #[.bool b6,.slice A6 L6 c6],.agg #[.bool b7,.slice A7 L7 c7],.int .i64 0]) (show (results _ _).run _ _=_ from ?_) rfl ⟨⟨_,_,rfl,(hZ6.dA Zj.out (aP _ _ _) _ _).dA (Zk.out.other (by omega) _ _) (aP _ _ _) _ _,(Vp.dA Zj.out (aP _ _ _) _ _).dA (Zk.out.other (by omega) _ _) (aP _ _ _) _ _⟩,(hEE.dA (by omega) _ _).dA (by omega) _ _⟩
    simp only [results]
    go_simp)
end Go.Proofs.YtfhcmggpojhegaaGreatDoor
namespace Go.Proofs.YtfhcmggpojhegaaGreatDoor
open Go.RowKit
set_option linter.all false
set_option maxRecDepth 100000
set_option maxHeartbeats 8000000
theorem qh (w:World):(Instr.alloc 48 true (.tuple #[])).run Tryz.prog w = .ok (.pointer (some ⟨w.heap.size,0,none⟩)) (w.alloc (.cells #[.bool false,.slice none 0 0] 48)):=by go_simp
theorem mE {w:World} {N:Nat} {b0:Bool} {A0:Option Addr} {n0 c0:Nat} (h:Ib w N b0 (.slice A0 n0 c0)) (b:Bool) (A:Option Addr) (n c:Nat) :
  (Instr.storeAt 48 (.pointer (some ⟨N,0,none⟩)) (.agg #[.bool b,.slice A n c])).run Tryz.prog w = .ok () ((w.setCell ⟨N,0,none⟩ (.bool b)).setCell ⟨N,1,none⟩ (.slice A n c))∧Ib ((w.setCell ⟨N,0,none⟩ (.bool b)).setCell ⟨N,1,none⟩ (.slice A n c)) N b (.slice A n c):=by
 obtain ⟨h0,h1,h2,h3,h4⟩:=h
 refine ⟨?_,?_,?_,?_,?_,?_⟩
 all_goals go_simp
section
variable {L:List Oper} {S:World→Prop} {K:List (Nat × Value)→World→Prop} {i m d:Nat} {o:Oper} {x y:Operand} {r:List (Bool × Nat × Nat)} {l:List (Nat × Value)} {w:World} {b b0:Bool} {A A0:Option Addr} {n c n0 c0 N:Nat}
theorem bW (ho:Pl.nth L i=some o) (hp:o.op = .alloc 48) (hd:o.dst=some d) (hg:o.guard=none) (hS:∀ Y,Ext w Y→S Y)
  (h:∀ N w',Ext w w'→w.heap.size≤N→Ib w' N false (.slice none 0 0)→Pl.dO Tryz.prog L S K r ((d,.pointer (some ⟨N,0,none⟩))::l) w'):Pl.dO Tryz.prog L S K ((false,i,m)::r) l w:=by
 have e1:=(Ext.refl w).alloc (.cells #[.bool false,.slice none 0 0] 48)
 exact Pl.sM ho hp hd (by rw [hg];rfl) (qh w) (hS _ e1) (h _ _ e1 (Nat.le_refl _) (Ib.new w false (.slice none 0 0) 48))
theorem lG (ho:Pl.nth L i=some o) (hp:o.op = .store 48 x y) (hd:o.dst=none) (hg:o.guard=none) (hx:Pl.dF l x=some (.pointer (some ⟨N,0,none⟩))) (hy:Pl.dF l y=some (.agg #[.bool b,.slice A n c]))
  (hI:Ib w N b0 (.slice A0 n0 c0)) (hS:∀ Y,(∀ w0,Ext w0 w→w0.heap.size≤N→Ext w0 Y)→S Y)
  (h:∀ w',(∀ w0,Ext w0 w→w0.heap.size≤N→Ext w0 w')→(∀ v z,Zn w v z→Zn w' v z)→(∀ M b m,M≠N→Ib w M b m→Ib w' M b m)→Ib w' N b (.slice A n c)→Pl.dO Tryz.prog L S K r l w'):Pl.dO Tryz.prog L S K ((false,i,m)::r) l w:=by
 obtain ⟨r1,I1⟩:=mE hI b A n c
 have T1:∀ w0,Ext w0 w→w0.heap.size≤N→Ext w0 ((w.setCell ⟨N,0,none⟩ (.bool b)).setCell ⟨N,1,none⟩ (.slice A n c)):=fun w0 h hN=>h.dA hN _ _
 exact Pl.aW ho hp hd (by rw [hg];rfl) hx hy r1 (hS _ T1) (h _ T1 (fun v z hz=>hz.dA hI (aP _ _ _) _ _) (fun M b m hne hM=>hM.other hne _ _) I1)
end
end Go.Proofs.YtfhcmggpojhegaaGreatDoor
namespace Go.Proofs.YtfhcmggpojhegaaGreatDoor
open Go.RowKit
set_option linter.all false
set_option maxRecDepth 100000
set_option maxHeartbeats 8000000
theorem JU {x y:Operand} {a b:Int} {v:Bool} (h:(a==b)=v) (X:World):(do eqGuard .eql 3 x y (.int .i64 a) (.int .i64 b);binOp .eql 3 (.int .i64 a) (.int .i64 b):Sem Value).run Tryz.prog X = .ok (.bool v) X:=by
 subst h;go_simp
theorem Ib.mag {X:World} {N:Nat} {b:Bool} {m:Value} (h:Ib X N b m):(Instr.loadAt 22 (.pointer (some ⟨N,1,none⟩))).run Tryz.prog X = .ok m X:=by
 obtain ⟨h0,h1,h2,h3,h4⟩:=h
 go_simp
section
variable {L:List Oper} {S:World→Prop} {K:List (Nat × Value)→World→Prop} {k:Bool} {i m d:Nat} {o:Oper} {x:Operand} {r:List (Bool × Nat × Nat)} {l:List (Nat × Value)} {w:World}
end
theorem Zn.mag {w:World} {p:Bool} {A:Option Addr} {n c:Nat} {z:Int} (h:Zn w (.agg #[.bool p,.slice A n c]) z):Un w (.slice A n c) z.natAbs:=by
 obtain ⟨A',c',e,hu⟩:=h
 simp only [Value.agg.injEq,Array.mk.injEq,List.cons.injEq,Value.slice.injEq] at e
 obtain ⟨_,⟨rfl,rfl,rfl⟩,_⟩:=e
 exact hu
end Go.Proofs.YtfhcmggpojhegaaGreatDoor
namespace Go.Proofs.YtfhcmggpojhegaaGreatDoor
open Go.RowKit
set_option linter.all false
set_option maxRecDepth 100000
set_option maxHeartbeats 8000000
section
variable {x y:Operand} {X:World}
theorem Zl {a b c:Nat} {z:Int} (hz':z=(b:Int)) (h:a%b=c) (h0:0<b) (ha:a≤1000000) (hb:b≤1000000) (X:World):(do eqGuard .rem 3 x y (.int .i64 (a:Int)) (.int .i64 z);binOp .rem 3 (.int .i64 (a:Int)) (.int .i64 z):Sem Value).run Tryz.prog X = .ok (.int .i64 (c:Int)) X:=by
 subst hz'
 have e:Int.tmod (a:Int) (b:Int)=(c:Int):=by rw [← h];rfl
 have hc:c<b:=h ▸ Nat.mod_lt _ h0
 have w1:IntKind.i64.wrap (c:Int)=(c:Int):=IntWalk.i64_in _ (by omega)
 have hz:¬ ((b:Int)=0):=by omega
 have hn:¬ b=0:=by omega
 clear h hc
 go_simp
section
variable {L:List Oper} {S:World→Prop} {K:List (Nat × Value)→World→Prop} {k:Bool} {i m d:Nat} {o:Oper} {r:List (Bool × Nat × Nat)} {l:List (Nat × Value)} {w:World}
end
end
theorem AY {L:List Oper} {S:World→Prop} {K:List (Nat × Value)→World→Prop} {i m d:Nat} {o:Oper} {x:Operand} {r:List (Bool × Nat × Nat)} {l:List (Nat × Value)} {w:World} {n:Nat} (hn:n<4294967296)
  (ho:Pl.nth L i=some o) (hp:o.op = .buildSlice 22 1 #[(0,x)]) (hd:o.dst=some d) (hg:Pl.gd L l o.guard=some true) (hx:Pl.dF l x=some (.int .u32 (n:Int))) (hS:∀ Y,Ext w Y→S Y)
  (h:∀ A w',Ext w w'→U w' (.slice A 1 1) [n]→Pl.dO Tryz.prog L S K r ((d,.slice A 1 1)::l) w'):Pl.dO Tryz.prog L S K ((false,i,m)::r) l w:=by
 have e1:=(Ext.refl w).alloc (.cells #[.int .u32 (n:Int)] 27)
 refine Pl.mh (w':=w.alloc (.cells #[.int .u32 (n:Int)] 27)) (v:=.slice (some ⟨w.heap.size,0,none⟩) 1 1) ho hd hg (fun ρ hρ=>?_) (hS _ e1) (h _ _ e1 ?_)
 · unfold execOp;rw [hp]
   refine Pl.kJ _ ?_
   have e:=hρ.dF hx
   simp only [List.map_toArray,List.map_cons,List.map_nil]
   go_simp
 · refine ⟨some ⟨w.heap.size,0,none⟩,1,rfl,⟨Nat.le_refl _,by show 1≤_;decide⟩,fun x hx=>?_,fun _=>⟨⟨w.heap.size,0,none⟩,rfl,by simp,fun j hj=>?_⟩⟩
   · obtain rfl:x=n:=by simpa using hx
     exact hn
   · obtain rfl:j=0:=by simp at hj;omega
     have:lb [n] 0=n:=rfl
     go_simp
end Go.Proofs.YtfhcmggpojhegaaGreatDoor
namespace Go.Proofs.YtfhcmggpojhegaaGreatDoor
open Go.RowKit
set_option linter.all false
set_option maxRecDepth 100000
set_option maxHeartbeats 8000000
theorem EO {n:Nat}:(((limbs n).length:Int)==0)=decide (n=0):=by
 by_cases h:n=0
 · subst h;rw [bf];rfl
 · have:=KM (Nat.pos_of_ne_zero h)
   rw [decide_eq_false h,beq_eq_false_iff_ne];omega
end Go.Proofs.YtfhcmggpojhegaaGreatDoor
namespace Go.Proofs.YtfhcmggpojhegaaGreatDoor
open Go.RowKit
set_option linter.all false
set_option maxRecDepth 100000
set_option maxHeartbeats 8000000
theorem Un.Xf {w:World} {v:Value} {n:Nat} (h:Un w v n):∃ A c,v = .slice A (limbs n).length c:=by
 obtain ⟨A',c',e,_⟩:=h;exact ⟨A',c',e⟩
/-! Contracts. -/
/-! Comparisons of what nat.Cmp tells. -/
section
variable {P:Program} {T:TypeId} {x y:Operand} {n m:Nat}
end
/-! Numbers of the kinds. -/
section
variable {P:Program} {T:TypeId} {x y:Operand} {a b:Nat} {za zb:Int}
end
/-! Ways out of loops and blocks. -/
section
variable {P:Program} {Q:Exit→Act→World→Prop} {n:Nat} {ds:List Deferred} {cs:List Code} {l:List (Nat × Value)} {w:World}
end
section
variable {P:Program} {L:List Oper} {S:World→Prop} {K:List (Nat × Value)→World→Prop} {kk:Bool} {i m d:Nat} {o:Oper} {x y:Operand} {r:List (Bool × Nat × Nat)} {l:List (Nat × Value)} {w:World} {k:IntKind} {a b:Nat}
end
end Go.Proofs.YtfhcmggpojhegaaGreatDoor
namespace Go.Proofs.YtfhcmggpojhegaaGreatDoor
open Go.RowKit
set_option linter.all false
set_option maxRecDepth 100000
set_option maxHeartbeats 8000000
theorem yR (w:World) (q:Value):Calls Tryz.prog 147 #[q] w fun e w'=>e = .returned (.tuple #[])∧w'=w:=by
 refine Pl.aZ (n:=2) (vs:=[q]) Tryz.func147 rfl (by kernel_rfl) (by simp) ?_
 exact Pl.bM (Pl.kV rfl ⟨rfl,rfl⟩)
end Go.Proofs.YtfhcmggpojhegaaGreatDoor
namespace Go.Proofs.YtfhcmggpojhegaaGreatDoor
open Go.RowKit
set_option linter.all false
set_option maxRecDepth 100000
set_option maxHeartbeats 8000000
theorem vX (w:World) (f:FuncId) (fs:List Value) (vx vy:Value) (x y x' y':Nat) (N1 N2 N3:Nat) (T1 T2 T3:TypeId) (s k:Int) (hx:Un w vx x) (hy:Un w vy y)
  (h1:Cb w N1 T1 [vx]) (h2:Cb w N2 T2 [vy]) (h3:Cb w N3 T3 [.int .i64 s]) (n12:N1≠N2) (n13:N1≠N3) (n23:N2≠N3) (hs : -1000000000≤s+k∧s+k≤1000000000)
  (hen:∀ (u:Array Value) X,(callFunc f u).run Tryz.prog X = .ok (.enter f u) X)
  (ht:Calls Tryz.prog f (fs++([vx,vy]++[])).toArray w fun e w'=>∃ a b,e = .returned (.tuple #[a,b])∧Un w' a x'∧Un w' b y'∧Ext w w') :
  Calls Tryz.prog 146 #[.func (.func f) fs.toArray #[],.int .i64 k,.pointer (some ⟨N1,0,none⟩),.pointer (some ⟨N2,0,none⟩),.pointer (some ⟨N3,0,none⟩)] w fun e w'=>e = .returned (.tuple #[])∧∃ a b,Un w' a x'∧Un w' b y' ∧
   Cb w' N1 T1 [a]∧Cb w' N2 T2 [b]∧Cb w' N3 T3 [.int .i64 (s+k)]∧Xt [N1,N2,N3] w w':=by
 obtain ⟨A1,c1,rfl,-⟩:=Un.sh hx
 obtain ⟨A2,c2,rfl,-⟩:=Un.sh hy
 refine Pl.aZ (n:=17) (vs:=[.func (.func f) fs.toArray #[],.int .i64 k,.pointer (some ⟨N1,0,none⟩),.pointer (some ⟨N2,0,none⟩),.pointer (some ⟨N3,0,none⟩)]) Tryz.func146 rfl (by kernel_rfl) (by simp) ?_
 refine Pl.ay ?_
 refine Pl.ak (by kernel_rfl) ?_
 refine Pl.aA trivial rfl rfl rfl rfl rfl ?_
 refine Pl.aH trivial rfl rfl rfl rfl rfl (Cb.limbs h1) ?_
 refine Pl.aH trivial rfl rfl rfl rfl rfl (Cb.limbs h2) ?_
 refine Pl.gG rfl rfl rfl rfl rfl rfl hen ?_
 refine Calls.mono ht ?_
 rintro e w1 ⟨a,b,rfl,ha,hb,hB1⟩
 obtain ⟨A3,c3,rfl,-⟩:=Un.sh ha
 obtain ⟨A4,c4,rfl,-⟩:=Un.sh hb
 refine ⟨_,rfl,trivial,?_⟩
 refine Pl.aA trivial rfl rfl rfl rfl rfl ?_
 refine Pl.aL trivial rfl rfl rfl rfl rfl rfl ?_
 refine Pl.aL trivial rfl rfl rfl rfl rfl rfl ?_
 have k1:=Cb.ext h1 hB1
 have k2:=Cb.ext h2 hB1
 have k3:=Cb.ext h3 hB1
 have s1:=Cb.dN k1 A3 (limbs x').length c3
 have x1:=Xt.set (Bs:=[N1,N2,N3]) k1 (bP _ _ _) (by simp) 0 (.slice A3 (limbs x').length c3)
 have k1':=Cb.set k1 0 (.slice A3 (limbs x').length c3)
 have k2':=Cb.setOther k2 N1 0 (.slice A3 (limbs x').length c3) (Ne.symm n12)
 have k3':=Cb.setOther k3 N1 0 (.slice A3 (limbs x').length c3) (Ne.symm n13)
 generalize w1.setCell ⟨N1,0,none⟩ (.slice A3 (limbs x').length c3)=w2 at *
 refine Pl.aW rfl rfl rfl rfl rfl rfl s1 trivial ?_
 have s2:=Cb.dN k2' A4 (limbs y').length c4
 have x2:=Xt.set (Bs:=[N1,N2,N3]) k2' (bP _ _ _) (by simp) 0 (.slice A4 (limbs y').length c4)
 have m2:=Cb.set k2' 0 (.slice A4 (limbs y').length c4)
 have m1:=Cb.setOther k1' N2 0 (.slice A4 (limbs y').length c4) n12
 have m3:=Cb.setOther k3' N2 0 (.slice A4 (limbs y').length c4) (Ne.symm n23)
 generalize w2.setCell ⟨N2,0,none⟩ (.slice A4 (limbs y').length c4)=w3 at *
 refine Pl.aW rfl rfl rfl rfl rfl rfl s2 trivial ?_
 refine Pl.aj ?_
 refine Pl.ak (by kernel_rfl) ?_
 refine Pl.aH trivial rfl rfl rfl rfl rfl (Cb.int m3) ?_
 refine Pl.aA trivial rfl rfl rfl rfl rfl ?_
 refine Pl.aN (v:=.int .i64 (s+k)) trivial rfl rfl rfl rfl rfl rfl (fun X=>nM rfl hs.1 hs.2 X) ?_
 have s3:=Cb.sG m3 (s+k)
 have x3:=Xt.set (Bs:=[N1,N2,N3]) m3 (mO _) (by simp) 0 (.int .i64 (s+k))
 have p3:=Cb.set m3 0 (.int .i64 (s+k))
 have p1:=Cb.setOther m1 N3 0 (.int .i64 (s+k)) n13
 have p2:=Cb.setOther m2 N3 0 (.int .i64 (s+k)) n23
 generalize w3.setCell ⟨N3,0,none⟩ (.int .i64 (s+k))=w4 at *
 refine Pl.aW rfl rfl rfl rfl rfl rfl s3 trivial ?_
 refine Pl.aj ?_
 have kp:=x1.kp.trans (x2.kp.trans x3.kp)
 exact Pl.kV rfl ⟨rfl,_,_,Un.kp ha kp,Un.kp hb kp,p1,p2,p3,(Xt.ext hB1).trans (x1.trans (x2.trans x3))⟩
end Go.Proofs.YtfhcmggpojhegaaGreatDoor
namespace Go.Proofs.YtfhcmggpojhegaaGreatDoor
open Go.RowKit
set_option linter.all false
set_option maxRecDepth 100000
set_option maxHeartbeats 8000000
theorem NQ (l:List Nat) (s:Bool) (p q:Nat):cf l (alt s p) (alt (!s) q)=(alt (s ^^ decide (l.length%2=1)) (cs l p q).1,alt (!(s ^^ decide (l.length%2=1))) (cs l p q).2):=by
 induction l generalizing s p q with
 | nil=>simp [cf,cs]
 | cons k l ih =>
  have e:alt s p-(k:Int)*alt (!s) q=alt (!(!s)) (p+k*q):=by
   cases s<;>simp [alt,Int.mul_neg]<;>omega
  have h:=ih (!s) q (p+k*q)
  show cf l (alt (!s) q) (alt s p-k*alt (!s) q)=_
  rw [e,h]
  have h3:((!s) ^^ decide (l.length%2=1))=(s ^^ decide ((k::l).length%2=1)):=by
   rcases Nat.mod_two_eq_zero_or_one l.length with h2 | h2
   · have h4:(k::l).length%2=1:=by rw [List.length_cons];omega
     cases s<;>simp only [h2,h4]<;>rfl
   · have h4:(k::l).length%2=0:=by rw [List.length_cons];omega
     cases s<;>simp only [h2,h4]<;>rfl
  rw [h3]
  rfl
end Go.Proofs.YtfhcmggpojhegaaGreatDoor
namespace Go.Proofs.YtfhcmggpojhegaaGreatDoor
open Go.RowKit
set_option linter.all false
set_option maxRecDepth 100000
set_option maxHeartbeats 8000000
section
variable {L:List Oper} {S:World→Prop} {K:List (Nat × Value)→World→Prop} {k:Bool} {i m d:Nat} {o:Oper} {x y:Operand} {r:List (Bool × Nat × Nat)} {l:List (Nat × Value)} {w:World}
theorem Cz {t:Array TypeId} {a b:Int} (hS:S w) (ho:Pl.nth L i=some o) (hop:o.op = .call { callee:=.builtin .min,args:=#[x,y],argTypes:=t }) (hd:o.dst=some d) (hg:Pl.gd L l o.guard=some true) (hx:Pl.dF l x=some (.int .i64 a)) (hy:Pl.dF l y=some (.int .i64 b))
  (h:Pl.dO Tryz.prog L S K r ((d,.int .i64 (if b<a then b else a))::l) w):Pl.dO Tryz.prog L S K ((k,i,m)::r) l w :=
 Pl.dB hS ho hd hg (fun ρ hρ X _=>by
  unfold execOp;rw [hop]
  refine Pl.fJ (Builtin.min_ _ _ (#[x,y].map ρ)) X ?_
  rw [show #[x,y].map ρ=#[.int .i64 a,.int .i64 b] from by simp [hρ.dF hx,hρ.dF hy]]
  exact run_min_int2 _ _ _ _ _ _ _) h
end
end Go.Proofs.YtfhcmggpojhegaaGreatDoor
namespace Go.Proofs.YtfhcmggpojhegaaGreatDoor
open Go.RowKit
set_option linter.all false
set_option maxRecDepth 100000
set_option maxHeartbeats 8000000
theorem Ga (p q:Bool) (n m:Nat):sg (!(p==q)) (n*m)=sg p n*sg q m:=by
 cases p<;>cases q<;>simp [sg,Int.mul_neg,Int.neg_mul]
theorem lT (w:World) (va vb:Value) (a b:Int) (ha:Zn w va a) (hb:Zn w vb b) (hl:(limbs a.natAbs).length≤398) (hl2:(limbs b.natAbs).length≤398) (y:Int) (hy:a*b=y) :
  Calls Tryz.prog 38 #[va,vb] w fun e w'=>∃ u,e = .returned u∧Zn w' u y∧Ext w w':=by
 obtain ⟨p,A,L,c,n,rfl,hu,hL,hz,-,hza,hzn⟩:=ha.open
 obtain ⟨q,B,K,d,m,rfl,hv,hK,hz2,-,iF,jV⟩:=hb.open
 rw [hza] at hl
 rw [iF] at hl2
 obtain ⟨k,hk⟩:∃ k,n*m=k:=⟨_,rfl⟩
 have hM:=Lib.hid (fun W h g=>mulN W (.slice A L c) (.slice B K d) n m k h g hl hl2 hk)
 have Vy:=Lib.hid (fun W v (h:Un W v k)=>iq W (!(p==q)) v (limbs k) h k (aO _) y (by rw [← hk,Ga,← hz,← hz2];exact hy))
 have hE0:=((((Ext.refl w).alloc (.cells #[.bool p,.slice A L c] 48)).alloc (.cells #[.bool q,.slice B K d] 48)).alloc (.cells #[.bool false,.slice none 0 0] 48)).drew
 have hI0:=(Ib.vV w (.cells #[.bool p,.slice A L c] 48) (.cells #[.bool q,.slice B K d] 48) false (.slice none 0 0) 48).ext (Ext.refl _).drew
 have lC:=(Ib.new w p (.slice A L c) 48).ext ((((Ext.refl _).alloc (.cells #[.bool q,.slice B K d] 48)).alloc (.cells #[.bool false,.slice none 0 0] 48)).drew)
 have nL:=(Ib.new2 w (.cells #[.bool p,.slice A L c] 48) q (.slice B K d) 48).ext (((Ext.refl _).alloc (.cells #[.bool false,.slice none 0 0] 48)).drew)
 have hu0:=hu.below hE0
 have hv0:=hv.below hE0
 obtain ⟨p0,p1,p2,p3,p4⟩:=id lC
 obtain ⟨q0,q1,q2,q3,q4⟩:=id nL
 clear hl hl2 hza hzn iF jV hz hz2 hL hK ha hb hy hk
 go_enter Tryz.func38,Tryz.ntmps38
 have hS0:(w.heap.size+1+1<(((w.alloc (.cells #[.bool p,.slice A L c] 48)).alloc (.cells #[.bool q,.slice B K d] 48)).alloc (.cells #[.bool false,.slice none 0 0] 48)).drew.heap.size∧(((w.alloc (.cells #[.bool p,.slice A L c] 48)).alloc (.cells #[.bool q,.slice B K d] 48)).alloc (.cells #[.bool false,.slice none 0 0] 48)).drew.cell? ⟨w.heap.size,0,none⟩=some (.bool p)∧(((w.alloc (.cells #[.bool p,.slice A L c] 48)).alloc (.cells #[.bool q,.slice B K d] 48)).alloc (.cells #[.bool false,.slice none 0 0] 48)).drew.cell? ⟨w.heap.size,1,none⟩=some (.slice A L c)∧(((w.alloc (.cells #[.bool p,.slice A L c] 48)).alloc (.cells #[.bool q,.slice B K d] 48)).alloc (.cells #[.bool false,.slice none 0 0] 48)).drew.cell? ⟨w.heap.size+1,0,none⟩=some (.bool q)∧(((w.alloc (.cells #[.bool p,.slice A L c] 48)).alloc (.cells #[.bool q,.slice B K d] 48)).alloc (.cells #[.bool false,.slice none 0 0] 48)).drew.cell? ⟨w.heap.size+1,1,none⟩=some (.slice B K d))∧Ext w (((w.alloc (.cells #[.bool p,.slice A L c] 48)).alloc (.cells #[.bool q,.slice B K d] 48)).alloc (.cells #[.bool false,.slice none 0 0] 48)).drew:=⟨⟨by simp,p1,p2,q1,q2⟩,hE0⟩
 clear p0 p1 p2 p3 p4 q0 q1 q2 q3 q4
 go_wp2
 go_region_held3 (fun X=>(w.heap.size+1+1<X.heap.size∧X.cell? ⟨w.heap.size,0,none⟩=some (.bool p)∧X.cell? ⟨w.heap.size,1,none⟩=some (.slice A L c)∧X.cell? ⟨w.heap.size+1,0,none⟩=some (.bool q)∧X.cell? ⟨w.heap.size+1,1,none⟩=some (.slice B K d))∧Ext w X)
  (first
   | exact hS0
   | exact yO (by assumption) (by assumption)
   | exact yP (by assumption))
  (first
   | (go_at_call 17;((with_reducible refine (hM.out _ hu0 hv0).mono ?_);rintro e w2 ⟨u,rfl,hu2,hE2⟩;obtain ⟨A2,c2,rfl,hc2⟩:=Un.sh hu2))
   | (go_at_call 35;((with_reducible refine (Vy.out _ _ hu2).mono ?_);rintro e w3 ⟨u,rfl,hz3,bJ⟩;obtain ⟨b3,A3,L3,c3,rfl⟩:=hz3.sh;have kH:=(hI0.ext hE2).ext bJ;obtain ⟨i0,i1,i2,i3,i4⟩:=id kH)))
 clear kH hM Vy
 go_wp2
 (try simp only [Exit.inBlock,Exit.then])
 refine bodyPost_ret (v:=.agg #[.bool b3,.slice A3 L3 c3]) (show (results _ _).run _ _=_ from ?_) rfl ⟨_,rfl,hz3.dA ((hI0.ext hE2).ext bJ) (aP _ _ _) _ _,((hE0.below hE2).below bJ).dA (by omega) _ _⟩
 simp only [results]
 go_simp
end Go.Proofs.YtfhcmggpojhegaaGreatDoor
namespace Go.Proofs.YtfhcmggpojhegaaGreatDoor
open Go.RowKit
set_option linter.all false
set_option maxRecDepth 100000
set_option maxHeartbeats 8000000
theorem NS (w:World) (b:Bool) (A:Option Addr) (L c n:Nat) (hu:Un w (.slice A L c) n) (vm:Value) (m:Nat) (hv:Un w vm m) (hl:(limbs n).length≤1000000) (hl2:(limbs m).length≤1000000) (y:Int) (hy:sg b (n+m)=y) :
  Calls Tryz.prog 93 #[.agg #[.bool b,.slice A L c],vm] w fun e w'=>∃ u,e = .returned u∧Zn w' u y∧Ext w w':=by
 obtain ⟨A1,c1,rfl,-⟩:=Un.sh hv
 obtain ⟨L1,hL1⟩:∃ L,(limbs m).length=L:=⟨_,rfl⟩
 have hA:=Lib.hid (fun W h g=>jA W (.slice A L c) (.slice A1 (limbs m).length c1) n m h g (by omega) (by omega) _ rfl)
 rw [hL1] at hA hv ⊢
 have hE0:=(((Ext.refl w).alloc (.cells #[.bool b,.slice A L c] 131)).alloc (.cells #[.bool false,.slice none 0 0] 48)).drew
 have hI0:=(Ib.new2 w (.cells #[.bool b,.slice A L c] 131) false (.slice none 0 0) 48).ext (Ext.refl _).drew
 have lC:=(Ib.new w b (.slice A L c) 131).ext ((Ext.refl _).alloc (.cells #[.bool false,.slice none 0 0] 48)).drew
 have hu0:=hu.below hE0
 have hv0:=hv.below hE0
 have hM:=Lib.hid (fun W v h=>iq W b v (limbs (n+m)) h (n+m) (aO _) y hy)
 obtain ⟨p0,p1,p2,p3,p4⟩:=id lC
 clear hy hL1
 go_enter Tryz.func93,Tryz.ntmps93
 go_wp2
 go_region_with (first
  | (go_at_call 13;refine (hA.out _ hu0 hv0).mono ?_;rintro e w2 ⟨u,rfl,hu2,hE2⟩;obtain ⟨A2,c2,rfl,hc2⟩:=Un.sh hu2;obtain ⟨p0,p1,p2,p3,p4⟩:=lC.ext hE2)
  | (go_at_call 35;refine (hM.out _ _ hu2).mono ?_;rintro e w3 ⟨u,rfl,hz3,bJ⟩;obtain ⟨b3,A3,L3,c3,rfl⟩:=hz3.sh;have kH:=(hI0.ext hE2).ext bJ;obtain ⟨i0,i1,i2,i3,i4⟩:=id kH))
 all_goals (
  clear kH hA hM
  go_wp2
  (try simp only [Exit.inBlock,Exit.then])
  refine bodyPost_ret (v:=.agg #[.bool b3,.slice A3 L3 c3]) (show (results _ _).run _ _=_ from ?_) rfl ⟨_,rfl,hz3.dA ((hI0.ext hE2).ext bJ) (aP _ _ _) _ _,((hE0.below hE2).below bJ).dA (by simp) _ _⟩
  simp only [results]
  go_simp)
end Go.Proofs.YtfhcmggpojhegaaGreatDoor
namespace Go.Proofs.YtfhcmggpojhegaaGreatDoor
open Go.RowKit
set_option linter.all false
set_option maxRecDepth 100000
set_option maxHeartbeats 8000000
theorem AZ (w:World) (b:Bool) (A:Option Addr) (L c n:Nat) (hu:Un w (.slice A L c) n) (vm:Value) (m:Nat) (hv:Un w vm m) (hl:(limbs n).length≤1000000) (hl2:(limbs m).length≤1000000) (y:Int) (hy:(if m≤n then sg b (n-m) else sg (!b) (m-n))=y) :
  Calls Tryz.prog 94 #[.agg #[.bool b,.slice A L c],vm] w fun e w'=>∃ u,e = .returned u∧Zn w' u y∧Ext w w':=by
 obtain ⟨A1,c1,rfl,-⟩:=Un.sh hv
 obtain ⟨L1,hL1⟩:∃ L,(limbs m).length=L:=⟨_,rfl⟩
 obtain ⟨q,hq⟩:∃ q,decide (m≤n)=q:=⟨_,rfl⟩
 obtain ⟨d,hd⟩:∃ d,n-m=d:=⟨_,rfl⟩
 obtain ⟨d2,hd2⟩:∃ d,m-n=d:=⟨_,rfl⟩
 have hA:=Lib.hid (fun W h g=>vF W (.slice A L c) (.slice A1 (limbs m).length c1) n m h g (by omega) q hq d hd)
 have hA2:=Lib.hid (fun W h g=>vF W (.slice A1 (limbs m).length c1) (.slice A L c) m n h g (by omega) _ rfl d2 hd2)
 rw [hL1] at hA hA2 hv ⊢
 rw [hd,hd2] at hy
 have hE0:=((Ext.refl w).alloc (.cells #[.bool b,.slice A L c] 131)).alloc (.cells #[.bool false,.slice none 0 0] 48)
 have hI0:=Ib.new2 w (.cells #[.bool b,.slice A L c] 131) false (.slice none 0 0) 48
 have lC:=(Ib.new w b (.slice A L c) 131).ext ((Ext.refl _).alloc (.cells #[.bool false,.slice none 0 0] 48))
 have hu0:=hu.below hE0
 have hv0:=hv.below hE0
 obtain ⟨p0,p1,p2,p3,p4⟩:=id lC
 by_cases h0:m≤n
 · rw [if_pos h0] at hy
   rw [decide_eq_true h0] at hq
   subst hq
   have hM:=Lib.hid (fun W v h=>iq W b v (limbs d) h d (aO _) y hy)
   clear hy hL1 hA2 hd hd2 h0
   go_enter Tryz.func94,Tryz.ntmps94
   go_wp2_with (first
    | (go_at_call 127;refine (hA.out _ hu0 hv0).mono ?_;rintro e w2 ⟨u,rfl,hu2,hE2⟩;obtain ⟨A2,c2,rfl,hc2⟩:=Un.sh hu2;obtain ⟨p0,p1,p2,p3,p4⟩:=lC.ext hE2)
    | (go_at_call 35;refine (hM.out _ _ hu2).mono ?_;rintro e w3 ⟨u,rfl,hz3,bJ⟩;obtain ⟨b3,A3,L3,c3,rfl⟩:=hz3.sh;have kH:=(hI0.ext hE2).ext bJ;obtain ⟨i0,i1,i2,i3,i4⟩:=id kH))
   (try simp only [Exit.inBlock,Exit.then])
   refine bodyPost_ret (v:=.agg #[.bool b3,.slice A3 L3 c3]) (show (results _ _).run _ _=_ from ?_) rfl ⟨_,rfl,hz3.dA ((hI0.ext hE2).ext bJ) (aP _ _ _) _ _,((hE0.below hE2).below bJ).dA (by simp) _ _⟩
   simp only [results]
   go_simp
 · rw [if_neg h0] at hy
   rw [decide_eq_false h0] at hq
   subst hq
   have hM:=Lib.hid (fun W v h=>iq W (!b) v (limbs d2) h d2 (aO _) y hy)
   clear hy hL1 hd hd2 h0
   go_enter Tryz.func94,Tryz.ntmps94
   go_upto_region 4 with (go_at_call 127;refine (hA.out _ hu0 hv0).mono ?_;rintro e w2 ⟨u,rfl,hu2,hE2⟩;obtain ⟨A2,c2,rfl,hc2⟩:=Un.sh hu2;obtain ⟨p0,p1,p2,p3,p4⟩:=lC.ext hE2)
   go_wp2_with (first
    | (go_at_call 127;refine (hA2.out _ (Un.below hv0 hE2) (Un.below hu0 hE2)).mono ?_;rintro e w4 ⟨u,rfl,BV,bX⟩;obtain ⟨A4,c4,rfl,hc4⟩:=Un.sh BV;obtain ⟨p0,p1,p2,p3,p4⟩:=(lC.ext hE2).ext bX)
    | (go_at_call 35;refine (hM.out _ _ BV).mono ?_;rintro e w3 ⟨u,rfl,hz3,bJ⟩;obtain ⟨b3,A3,L3,c3,rfl⟩:=hz3.sh;have kH:=((hI0.ext hE2).ext bX).ext bJ;obtain ⟨i0,i1,i2,i3,i4⟩:=id kH))
   (try simp only [Exit.inBlock,Exit.then])
   refine bodyPost_ret (v:=.agg #[.bool b3,.slice A3 L3 c3]) (show (results _ _).run _ _=_ from ?_) rfl ⟨_,rfl,hz3.dA (((hI0.ext hE2).ext bX).ext bJ) (aP _ _ _) _ _,(((hE0.below hE2).below bX).below bJ).dA (by simp) _ _⟩
   simp only [results]
   go_simp
theorem jK (b:Bool) (n m:Nat):sg b (n+m)=sg b n+sg b m:=by cases b<;>simp [sg]<;>omega
theorem je (b:Bool) (n m:Nat):(if m≤n then sg b (n-m) else sg (!b) (m-n))=sg b n+sg (!b) m:=by
 cases b<;>simp only [sg,Bool.not_false,Bool.not_true,if_true,if_false,Bool.false_eq_true]<;>split<;>omega
theorem CB (w:World) (va vb:Value) (a b:Int) (ha:Zn w va a) (hb:Zn w vb b) (hl:(limbs a.natAbs).length≤1000000) (hl2:(limbs b.natAbs).length≤1000000) (y:Int) (hy:a+b=y) :
  Calls Tryz.prog 37 #[va,vb] w fun e w'=>∃ u,e = .returned u∧Zn w' u y∧Ext w w':=by
 have hmf:∀ (fn:Fn) (first cap:Array Value) (w:World),(Instr.makeFunc fn first cap).run Tryz.prog w = .ok (.func fn first cap) w:=fun _ _ _ _=>rfl
 obtain ⟨p,A,L,c,n,rfl,hu,hL,hz,-,hza,hzn⟩:=ha.open
 obtain ⟨q,B,K,d,m,rfl,hv,hK,hz2,-,iF,jV⟩:=hb.open
 rw [hza] at hl
 rw [iF] at hl2
 have hE0:=(((Ext.refl w).alloc (.cells #[.bool p,.slice A L c] 48)).alloc (.cells #[.bool q,.slice B K d] 48)).alloc (.cells #[.bool false,.slice none 0 0] 48)
 have hI0:=Ib.vV w (.cells #[.bool p,.slice A L c] 48) (.cells #[.bool q,.slice B K d] 48) false (.slice none 0 0) 48
 have hu0:=hu.below hE0
 have hv0:=hv.below hE0
 have hG:=Lib.hid (fun W h g (e:sg p (n+m)=y)=>NS W p A L c n h (.slice B K d) m g hl hl2 y e)
 have hS:=Lib.hid (fun W h g (e:(if m≤n then sg p (n-m) else sg (!p) (m-n))=y)=>AZ W p A L c n h (.slice B K d) m g hl hl2 y e)
 rw [hz,hz2] at hy
 have HY:=Lib.hid hy
 clear hl hl2 hza hzn iF jV hz hz2 hL hK ha hb hy
 cases p<;>cases q
 case' false.false=>have HC:=Lib.hid (hG.out _ hu0 hv0 ((jK _ _ _).trans HY.out))
 case' true.true=>have HC:=Lib.hid (hG.out _ hu0 hv0 ((jK _ _ _).trans HY.out))
 case' true.false=>have HC:=Lib.hid (hS.out _ hu0 hv0 ((je _ _ _).trans HY.out))
 case' false.true=>have HC:=Lib.hid (hS.out _ hu0 hv0 ((je _ _ _).trans HY.out))
 all_goals (
  clear hG hS
  go_enter Tryz.func37,Tryz.ntmps37
  go_wp2_with (first
   | (go_at_call 93;refine HC.out.mono ?_;rintro e w3 ⟨u,rfl,hz3,bJ⟩;obtain ⟨b3,A3,L3,c3,rfl⟩:=hz3.sh;have kH:=hI0.ext bJ;obtain ⟨i0,i1,i2,i3,i4⟩:=id kH)
   | (go_at_call 94;refine HC.out.mono ?_;rintro e w3 ⟨u,rfl,hz3,bJ⟩;obtain ⟨b3,A3,L3,c3,rfl⟩:=hz3.sh;have kH:=hI0.ext bJ;obtain ⟨i0,i1,i2,i3,i4⟩:=id kH))
  (try simp only [Exit.inBlock,Exit.then])
  refine bodyPost_ret (v:=.agg #[.bool b3,.slice A3 L3 c3]) (show (results _ _).run _ _=_ from ?_) rfl ⟨_,rfl,hz3.dA (hI0.ext bJ) (aP _ _ _) _ _,(hE0.below bJ).dA (by omega) _ _⟩
  simp only [results]
  go_simp)
end Go.Proofs.YtfhcmggpojhegaaGreatDoor
namespace Go.Proofs.YtfhcmggpojhegaaGreatDoor
open Go.RowKit
set_option linter.all false
set_option maxRecDepth 100000
set_option maxHeartbeats 8000000
theorem uy {A M:Nat}:∀ (pl:List Nat) (n m:Nat) (x y:Int) (rest:List Nat),Cf A M n m x y→quo n m=pl++rest→∃ P Q,rest=quo P Q∧Cf A M P Q (cf pl x y).1 (cf pl x y).2
 | [],n,m,x,y,rest,h,hq=>⟨n,m,hq.symm,h⟩
 | k::pl,n,m,x,y,rest,h,hq=>by
  have hm:m≠0:=by rintro rfl;rw [lN] at hq;cases hq
  rw [nY hm,List.cons_append] at hq
  injection hq with h1 h2
  have:=uy pl m (n%m) y (x-k*y) rest (by rw [← h1];exact (h.step hm).1) h2
  exact this
theorem qi {a b:Nat} {pl rest:List Nat} (h:quo a b=pl++rest):(cs pl 1 0).1≤max b 1∧(cs pl 1 0).2≤max b 1:=by
 obtain ⟨P,Q,_,hc⟩:=uy pl a b 1 0 rest (Cf.first a (Nat.le_max_left b 1) (Nat.le_max_right b 1)) h
 have e:=NQ pl false 1 0
 rw [show alt false 1=1 from rfl,show alt (!false) 0=0 from rfl] at e
 have h1:=hc.left
 have h2:=hc.right
 rw [e] at h1 h2
 rw [Am] at h1 h2
 exact ⟨h1,h2⟩
theorem uA {b:Nat} (h:Sn b 90):Sn (max b 1) 90:=by
 rcases Nat.le_total b 1 with h1 | h1
 · rw [Nat.max_eq_right h1];exact Sn.small (by decide)
 · rw [Nat.max_eq_left h1];exact h
theorem Zm {a b:Nat} {pl rest:List Nat} (h:quo a b=pl++rest) (hb:Sn b 90):Sn (cs pl 1 0).1 90∧Sn (cs pl 1 0).2 90:=⟨(uA hb).down (qi h).1,(uA hb).down (qi h).2⟩
theorem vY (l:List Nat):(cf l 1 0).1=sg (decide (l.length%2=1)) (cs l 1 0).1:=by
 have e:=NQ l false 1 0
 rw [show alt false 1=1 from rfl,show alt (!false) 0=0 from rfl,Bool.false_xor] at e
 rw [e]
 cases decide (l.length%2=1)
 · rw [kM];rfl
 · rw [um];rfl
theorem yS (b:Bool) (A:Option Addr) (n c:Nat):∀ u∈[Value.bool b,.slice A n c],gF u:=by
 intro u hu k e
 subst e
 simp at hu
theorem vZ {fn:Func} {n:Nat} {ds:List Deferred} {l:List (Nat × Value)} {w:World} {t t2:Tmp} {N:Nat} {v:Value} {vs:List Value} {T ty:TypeId} {d:TypeDesc} (hr:fn.results=#[.tmp t,.cell t2 ty]) (hv:Pl.look l t=some v) (hv2:Pl.look l t2=some (.pointer (some ⟨N,0,none⟩)))
  (hC:Cb w N T vs) (hu:Tryz.prog.underlying ty=some d) (hd:d.isRow=true) (hi:(Tryz.prog.info? ty).map (·.size)=some vs.length):∀ a,Pl.Ag n ds a l→(results fn a.tmps).run Tryz.prog w = .ok (.tuple #[v,.agg vs.toArray]) w:=fun a ha=>by
 have hl:=hC.load ty d hu hd hi
 unfold results
 rw [hr]
 have e1:a.tmps.getD t undef=v:=by rw [Array.getD_eq_getD_getElem?,ha.look t _ hv];rfl
 have e2:a.tmps.getD t2 undef = .pointer (some ⟨N,0,none⟩):=by rw [Array.getD_eq_getD_getElem?,ha.look t2 _ hv2];rfl
 simp only [Instr.loadAt,Instr.sureAddr,Sem.run_bind,Sem.run_pure,Result.andThen_ok] at hl
 simp only [List.mapM_toArray,List.mapM_cons,List.mapM_nil,e1,e2,asAddr,Sem.run_bind,Sem.run_pure,Result.andThen_ok]
 simp [hl,Sem.run_bind,Result.andThen]
theorem qj (w:World) (va vb:Value) (a b:Nat) (ha:Un w va a) (hb:Un w vb b) (hla:Sn a 90) (hlb:Sn b 90) :
  Calls Tryz.prog 90 #[va,vb] w fun e w'=>∃ g u,e = .returned (.tuple #[g,u])∧Un w' g (Nat.gcd a b)∧Zn w' u (cf (quo a b) 1 0).1∧Ext w w':=by
 obtain ⟨Aa,ca,rfl,-⟩:=Un.sh ha
 obtain ⟨Ab,cb,rfl,-⟩:=Un.sh hb
 have hmin:decide ((3000:Int)≤(if ((limbs b).length:Int)<((limbs a).length:Int) then ((limbs b).length:Int) else ((limbs a).length:Int)))=false:=by unfold Sn at hla hlb;rw [decide_eq_false_iff_not];split<;>omega
 refine Pl.Ck (n:=39) (vs:=[.slice Aa (limbs a).length ca,.slice Ab (limbs b).length cb]) Tryz.func90 rfl (by kernel_rfl) (by simp) ?_
 repeat refine Pl.ay ?_
 refine Pl.ak (by kernel_rfl) ?_
 refine Pl.aF trivial rfl rfl rfl rfl rfl ?_
 refine fB rfl rfl rfl rfl (z:=.agg #[.bool false,.slice none 0 0]) (by kernel_rfl) (fun _ _=>trivial) ?_
 intro N5 u1 hB1 hN5 Zo
 replace Zo:Cb u1 N5 48 [.bool false,.slice none 0 0]:=Zo
 refine Pl.aj ?_
 repeat refine Pl.ay ?_
 refine Pl.ak (by kernel_rfl) ?_
 refine Pl.aA trivial rfl rfl rfl rfl rfl ?_
 refine eT trivial rfl rfl rfl rfl rfl ?_
 refine Pl.aA trivial rfl rfl rfl rfl rfl ?_
 refine eT trivial rfl rfl rfl rfl rfl ?_
 refine Cz trivial rfl rfl rfl rfl rfl rfl ?_
 refine Pl.aN (v:=.bool false) trivial rfl rfl rfl rfl rfl rfl (fun X=>Jy hmin X) ?_
 refine Pl.aj ?_
 repeat refine Pl.ay ?_
 refine Pl.bn rfl ?_
 repeat refine Pl.ay ?_
 refine Pl.bM ?_
 repeat refine Pl.ay ?_
 refine Pl.ak (by kernel_rfl) ?_
 refine AY (n:=1) (by decide) rfl rfl rfl rfl rfl (fun _ _=>trivial) ?_
 intro A1 u2 hB2 us1
 have h1:=U.one us1
 obtain ⟨A0,c0,e0,-⟩:=Un.sh h1
 refine fB rfl rfl rfl rfl (z:=.slice none 0 0) (by kernel_rfl) (fun _ _=>trivial) ?_
 intro N6 u3 hB3 hN6 Lt
 replace Lt:Cb u3 N6 22 [.slice none 0 0]:=Lt
 refine fB rfl rfl rfl rfl (z:=.slice none 0 0) (by kernel_rfl) (fun _ _=>trivial) ?_
 intro N7 u4 Gb hN7 QN
 replace QN:Cb u4 N7 22 [.slice none 0 0]:=QN
 refine fB rfl rfl rfl rfl (z:=.int .i64 0) (by kernel_rfl) (fun _ _=>trivial) ?_
 intro N8 u5 dJ hN8 VV
 replace VV:Cb u5 N8 3 [.int .i64 0]:=VV
 refine Pl.aW rfl rfl rfl rfl rfl rfl (Cb.dN (Cb.ext Lt (Gb.below dJ)) _ _ _) trivial ?_
 have x6:=Xt.set (Bs:=[N6]) (Cb.ext Lt (Gb.below dJ)) (bP _ _ _) (by simp) 0 (.slice A1 1 1)
 have k66:=Cb.set (Cb.ext Lt (Gb.below dJ)) 0 (.slice A1 1 1)
 generalize u5.setCell ⟨N6,0,none⟩ (.slice A1 1 1)=u6 at *
 have d67:N6<N7:=Nat.lt_of_lt_of_le Lt.lt hN7
 have d78:N7<N8:=Nat.lt_of_lt_of_le QN.lt hN8
 have d56:N5<N6:=Nat.lt_of_lt_of_le (Cb.ext Zo hB2).lt hN6
 refine Pl.aW rfl rfl rfl rfl rfl rfl (Cb.dN (x6.cb (Cb.ext QN dJ) (by simp;omega)) none 0 0) trivial ?_
 have x7:=Xt.set (Bs:=[N7]) (x6.cb (Cb.ext QN dJ) (by simp;omega)) (bP _ _ _) (by simp) 0 (.slice none 0 0)
 have k77:=Cb.set (x6.cb (Cb.ext QN dJ) (by simp;omega)) 0 (.slice none 0 0)
 generalize u6.setCell ⟨N7,0,none⟩ (.slice none 0 0)=u7 at *
 refine Pl.aW rfl rfl rfl rfl rfl rfl (Cb.sG (x7.cb (x6.cb VV (by simp;omega)) (by simp;omega)) 0) trivial ?_
 have x8:=Xt.set (Bs:=[N8]) (x7.cb (x6.cb VV (by simp;omega)) (by simp;omega)) (mO _) (by simp) 0 (.int .i64 0)
 have k88:=Cb.set (x7.cb (x6.cb VV (by simp;omega)) (by simp;omega)) 0 (.int .i64 0)
 generalize u7.setCell ⟨N8,0,none⟩ (.int .i64 0)=u8 at *
 refine Pl.aj ?_
 have x58:Xt [N6,N7,N8] u5 u8:=(x6.mono (by simp)).trans ((x7.mono (by simp)).trans (x8.mono (by simp)))
 have Zp:=hB2.below (hB3.below (Gb.below dJ))
 have k58:=x58.cb (Cb.ext Zo Zp) (by simp;omega)
 have k68:=x8.cb (x7.cb k66 (by simp;omega)) (by simp;omega)
 have k78:=x8.cb k77 (by simp;omega)
 have h18:=Un.kp (Un.below h1 (hB3.below (Gb.below dJ))) x58.kp
 have hw5:w.heap.size≤N5:=hN5
 have dL:=(hB1.below Zp).xt x58 (by simp;omega)
 clear x6 x7 x8 k66 k77 Lt QN VV Zo
 repeat refine Pl.ay ?_
 refine Pl.ak (by kernel_rfl) ?_
 refine Pl.aA trivial rfl rfl rfl rfl rfl ?_
 refine fB rfl rfl rfl rfl (z:=.slice none 0 0) (by kernel_rfl) (fun _ _=>trivial) ?_
 intro N9 u9 gW hN9 Zq
 replace Zq:Cb u9 N9 22 [.slice none 0 0]:=Zq
 refine Pl.aW rfl rfl rfl rfl rfl rfl (Cb.dN Zq Aa (limbs a).length ca) trivial ?_
 have vD:=Xt.set (Bs:=[N9]) Zq (bP _ _ _) (by simp) 0 (.slice Aa (limbs a).length ca)
 have Zr:=Cb.set Zq 0 (.slice Aa (limbs a).length ca)
 have d89:N8<N9:=Nat.lt_of_lt_of_le k88.lt hN9
 have ahV:=vD.cb (Cb.ext k58 gW) (by simp;omega)
 have ahW:=vD.cb (Cb.ext k68 gW) (by simp;omega)
 have ahX:=vD.cb (Cb.ext k78 gW) (by simp;omega)
 have ahY:=vD.cb (Cb.ext k88 gW) (by simp;omega)
 have cZ:=(dL.below gW).xt vD (by simp;omega)
 have ahZ:=Un.kp (Un.below h18 gW) vD.kp
 generalize u9.setCell ⟨N9,0,none⟩ (.slice Aa (limbs a).length ca)=w3 at *
 refine Pl.aj ?_
 repeat refine Pl.ay ?_
 refine Pl.ak (by kernel_rfl) ?_
 refine Pl.nZ trivial rfl rfl rfl rfl rfl rfl ?_
 refine Pl.aF trivial rfl rfl rfl rfl rfl ?_
 refine Pl.aj ?_
 repeat refine Pl.ay ?_
 refine Pl.ak (by kernel_rfl) ?_
 refine Pl.aA trivial rfl rfl rfl rfl rfl ?_
 refine Pl.aA trivial rfl rfl rfl rfl rfl ?_
 refine Pl.aA trivial rfl rfl rfl rfl rfl ?_
 refine Pl.az rfl rfl rfl rfl rfl (fun u X=>Pl.enters Tryz.func58 (by kernel_rfl) rfl u X) ?_
 refine Calls.mono (uh _ _ _ _ _ rfl rfl rfl rfl) ?_
 rintro e w4 ⟨Na,Nb,Ne,Ng,rfl,kna,knb,kne,XD,o1,o2,o3,o4,hB4⟩
 refine ⟨_,rfl,trivial,?_⟩
 refine Pl.aj ?_
 repeat refine Pl.ay ?_
 refine Pl.dM ?_
 repeat refine Pl.ay ?_
 refine Pl.KO (gf := 118) (lb:=[.pointer (some ⟨Nb,0,none⟩),.pointer (some ⟨Na,0,none⟩),.pointer (some ⟨Ne,0,none⟩),.pointer (some ⟨Ng,0,none⟩)]) rfl (fun u X=>Pl.enters Tryz.func118 (by kernel_rfl) rfl u X) ?_
 intro fn tmps rec hrec hAg
 obtain ⟨D,hD⟩:∃ D,w4.heap.size=D:=⟨_,rfl⟩
 rw [hD]
 have bX:=cZ.below hB4
 have Tp:w.heap.size≤D:=by rw [← hD];exact bX.size
 have lZ:Ext w4 ((w4.alloc (.deferred (some []))).alloc (.loop rec)):=((Ext.refl w4).alloc _).alloc _
 have hL5:Lq w D rec ((w4.alloc (.deferred (some []))).alloc (.loop rec)):=⟨by rw [← hD];have:=World.alloc_heap_new (w4.alloc (.deferred (some []))) (.loop rec);rwa [World.size_alloc] at this,by rw [← hD];exact (Below.heap_alloc _ _ _ (by simp)).trans (World.alloc_heap_new w4 _),bX.below lZ⟩
 have hs5:((w4.alloc (.deferred (some []))).alloc (.loop rec)).heap.size=D+2:=by rw [World.size_alloc,World.size_alloc,hD]
 generalize (w4.alloc (.deferred (some []))).alloc (.loop rec)=w5 at *
 have hlt3:=Zr.lt
 have hng:=XD.lt
 rw [hD] at hng
 have h34:=hB4.size
 rw [hD] at h34
 refine Calls.mono (ug w5 a b _ _ Na Nb Ne Ng 147 [] 146 [.pointer (some ⟨N6,0,none⟩),.pointer (some ⟨N7,0,none⟩),.pointer (some ⟨N8,0,none⟩)] (D+1) [N6,N7,N8,N9,D+1] (fun ql pl pr X=>(∃ v1 v2 vg,Cb X N6 22 [v1]∧Cb X N7 22 [v2]∧Cb X N8 3 [.int .i64 ((pl.length:Nat):Int)]∧Cb X N9 22 [vg]∧Un X v1 (cs pl 1 0).1∧Un X v2 (cs pl 1 0).2∧Un X vg pr.1)∧Cb X N5 48 [.bool false,.slice none 0 0]∧Lq w D rec X) (fun _=>False) (Cb.ext kna lZ) (Cb.ext knb lZ) (Cb.ext kne lZ) (Cb.ext XD lZ) ⟨o2,o3,o4⟩ ?Ci (Un.below ha hL5.ext) (Un.below hb hL5.ext) hla hlb ?h0 ?hI (fun u X=>Pl.enters Tryz.func147 (by kernel_rfl) rfl u X) (fun u X=>Pl.enters Tryz.func146 (by kernel_rfl) rfl u X) ?yf ?rM ?vC) ?_
 case Ci=>intro k hk;simp at hk;rcases hk with rfl | rfl | rfl | rfl | rfl<;>omega
 case h0=>exact ⟨⟨_,_,_,Cb.ext (Cb.ext ahW hB4) lZ,Cb.ext (Cb.ext ahX hB4) lZ,Cb.ext (Cb.ext ahY hB4) lZ,Cb.ext (Cb.ext Zr hB4) lZ,Un.below (Un.below ahZ hB4) lZ,Un.nil _ _ _,Un.below ha hL5.ext⟩,Cb.ext (Cb.ext ahV hB4) lZ,hL5⟩
 case hI =>
  rintro ql pl pr X Y Cs ⟨⟨v1,v2,vg,k6,k7,k8,k9,h1,h2,hg⟩,k5,hL⟩ hX hC
  have nb:∀ N,N<D+2→N≠Na→N≠Nb→N∉Cs:=fun N hN h1 h2 hc=>by rcases hC N hc with h | h | h<;>omega
  exact ⟨⟨v1,v2,vg,hX.cb k6 (nb _ (by omega) (by omega) (by omega)),hX.cb k7 (nb _ (by omega) (by omega) (by omega)),hX.cb k8 (nb _ (by omega) (by omega) (by omega)),hX.cb k9 (nb _ (by omega) (by omega) (by omega)),Un.kp h1 hX.kp,Un.kp h2 hX.kp,Un.kp hg hX.kp⟩,hX.cb k5 (nb _ (by omega) (by omega) (by omega)),hL.xt hX fun k hk=>by rcases hC k hk with h | h | h<;>omega⟩
 case yf =>
  intro ql pl pr q v X hJ hpre hq hv
  refine (yR X v).mono fun e X' h=>?_
  obtain ⟨rfl,rfl⟩:=h
  exact ⟨rfl,hJ,Xc.refl _⟩
 case rM =>
  rintro pl l pr f fs n X ⟨⟨v1,v2,vg,k6,k7,k8,k9,h1,h2,hg⟩,k5,hL⟩ ⟨rest,hpre⟩ ht rfl
  have hsh:=pM (a:=a) (hlb.le (show 90≤1000 by decide))
  have Jz:quo a b=pl++(l++rest):=by rw [hpre,List.append_assoc]
  have hsn:=Zm Jz hlb
  have hln:pl.length+l.length≤64000:=by rw [hpre] at hsh;simp at hsh;omega
  refine (vX X f fs v1 v2 (cs pl 1 0).1 (cs pl 1 0).2 (cs (pl++l) 1 0).1 (cs (pl++l) 1 0).2 N6 N7 N8 _ _ _ _ _ h1 h2 k6 k7 k8 (by omega) (by omega) (by omega) (by omega) (ht X (Ext.refl _)).1 ?_).mono fun e X' h=>?_
  · rw [Ct];exact (ht X (Ext.refl _)).2 v1 v2 _ _ h1 h2 (hsn.1.le (by decide)) (hsn.2.le (by decide))
  · obtain ⟨rfl,x1,x2,g1,g2,m6,m7,m8,hx⟩:=h
    refine ⟨rfl,⟨⟨x1,x2,vg,m6,m7,by rw [List.length_append,Int.natCast_add];exact m8,hx.cb k9 (by simp;omega),g1,g2,Un.kp hg hx.kp⟩,hx.cb k5 (by simp;omega),hL.xt hx (by simp;omega)⟩,Xc.xt (hx.mono (by simp))⟩
 case vC =>
  rintro ql pr P Q vp vq X ⟨⟨v1,v2,vg,k6,k7,k8,k9,h1,h2,hg⟩,k5,hL⟩ htold XH hsp hsq hp hq
  obtain ⟨Ap,cp,rfl,-⟩:=Un.sh hp
  obtain ⟨Aq,cq,rfl,-⟩:=Un.sh hq
  obtain ⟨Ag,cg,rfl,-⟩:=Un.sh hg
  refine YW.of hrec hL.loop ?_
  refine Pl.Fy (Pl.Ag.round hAg (by decide) _) ?_
  repeat refine Pl.jh ?_
  refine Pl.iW (by kernel_rfl) ?_
  refine fB rfl rfl rfl rfl (z:=.agg #[.slice none 0 0,.slice none 0 0]) (by kernel_rfl) (fun _ _=>trivial) ?_
  intro Np X1 hX1 hNp M6
  replace M6:Cb X1 Np 91 [.slice none 0 0,.slice none 0 0]:=M6
  refine iC (new:=[.slice Ap (limbs P).length cp,.slice Aq (limbs Q).length cq]) M6 rfl rfl rfl rfl rfl rfl (by kernel_rfl) rfl (by simp [Value.oneCell']) trivial ?_
  have kp2:=Cb.put M6 [.slice Ap (limbs P).length cp,.slice Aq (limbs Q).length cq]
  have x2:Xt [Np] X (X1.setRow Np ([.slice Ap (limbs P).length cp,.slice Aq (limbs Q).length cq]:List Value).toArray):=(Xt.ext hX1).trans (Xt.put M6 (ni _ _ _ _ _ _) (by simp) _)
  generalize X1.setRow Np ([.slice Ap (limbs P).length cp,.slice Aq (limbs Q).length cq]:List Value).toArray=X2 at *
  refine Pl.aj ?_
  have hDX:=(Array.getElem?_eq_some_iff.1 hL.loop).1
  have hsz:D+2≤X.heap.size:=hDX
  have hwX:=hL.ext.size
  have hL2:=hL.xt x2 (by simp;omega)
  obtain ⟨hL3,x3⟩:=hL2.put Tp { rec with state:=.busy }
  have kp3:=x3.cb kp2 (by simp;omega)
  have x23:Xt [Np,D+1] X (X2.putObj (D+1) (.loop { rec with state:=.busy })):=(x2.mono (by simp)).trans (x3.mono (by simp))
  have k93:=x23.cb k9 (by simp;omega)
  refine Pl.yI fun a2 ha2=>⟨_,_,ha2,run_beginRound hL2.loop (by rw [hrec]),?_⟩
  generalize X2.putObj (D+1) (.loop { rec with state:=.busy })=X3 at *
  repeat refine Pl.jh ?_
  refine Pl.Fz ?_
  repeat refine Pl.jh ?_
  refine Pl.iW (by kernel_rfl) ?_
  refine bL trivial rfl rfl rfl rfl rfl (zV _) ?_
  refine Pl.aH trivial rfl rfl rfl rfl rfl (Cb.jZ (j:=0) kp3 rfl) ?_
  refine Pl.aW rfl rfl rfl rfl rfl rfl (Cb.dN k93 Ap (limbs P).length cp) trivial ?_
  have x4:=Xt.set (Bs:=[N9]) k93 (bP _ _ _) (by simp) 0 (.slice Ap (limbs P).length cp)
  have k94:=Cb.set k93 0 (.slice Ap (limbs P).length cp)
  have hL4:=hL3.xt x4 (by simp;omega)
  generalize X3.setCell ⟨N9,0,none⟩ (.slice Ap (limbs P).length cp)=X4 at *
  refine Pl.aj ?_
  refine Pl.qV ?_
  refine Pl.yI fun a3 ha3=>?_
  obtain ⟨v5,X5,hr5,rfl,hL5,x5⟩:=Lq.fin (P:=Tryz.prog) hL4 Tp (by rw [hrec]) (by rw [hrec])
  refine ⟨_,_,hr5,.inl ⟨rfl,?_⟩⟩
  have x25:Xt [Np,D+1,N9] X X5:=(x23.mono (by simp)).trans ((x4.mono (by simp)).trans (x5.mono (by simp)))
  have dn:Np≠N5∧Np≠N6∧Np≠N7∧Np≠N8:=by omega
  exact ⟨⟨⟨v1,v2,_,x25.cb k6 (by simp;omega),x25.cb k7 (by simp;omega),x25.cb k8 (by simp;omega),x5.cb k94 (by simp;omega),Un.kp h1 x25.kp,Un.kp h2 x25.kp,Un.kp hp x25.kp⟩,x25.cb k5 (by simp;omega),hL5⟩,(Xc.xt x25).drop (by simp;omega)⟩
 rintro e w6 ⟨rfl,(⟨P,⟨⟨v1,v2,vg,k6,k7,k8,k9,h1,h2,hg⟩,k5,hL⟩,hPg⟩ | hf)⟩
 rotate_left
 · exact hf.elim
 refine ⟨_,rec,rfl,hL.loop,by rw [hrec];simp,?_⟩
 rw [hrec]
 dsimp only
 obtain ⟨hL7,x7⟩:=hL.put Tp { rec with state:=.exhausted }
 rw [hrec] at hL7 x7
 generalize w6.putObj (D+1) _=w7 at *
 have k57:=x7.cb k5 (by simp;omega)
 have k67:=x7.cb k6 (by simp;omega)
 have k87:=x7.cb k8 (by simp;omega)
 have k97:=x7.cb k9 (by simp;omega)
 have h17:=Un.kp h1 x7.kp
 have hg7:=Un.kp hg x7.kp
 obtain ⟨Af,cf1,rfl,-⟩:=Un.sh h1
 obtain ⟨Ag,cg,rfl,-⟩:=Un.sh hg
 refine Pl.dG ?_
 have hsh:=pM (a:=a) (hlb.le (show 90≤1000 by decide))
 obtain ⟨sb,hsb⟩:∃ sb,decide ((quo a b).length%2=1)=sb:=⟨_,rfl⟩
 obtain ⟨q1,hq1⟩:∃ q,(cs (quo a b) 1 0).1=q:=⟨_,rfl⟩
 repeat refine Pl.ay ?_
 refine Pl.iJ (S:=fun X=>Cb X N9 22 [.slice Ag (limbs P).length cg]∧Cb X N8 3 [.int .i64 (((quo a b).length:Nat):Int)]∧Cb X N6 22 [.slice Af (limbs (cs (quo a b) 1 0).1).length cf1]) [(true,0,0),(true,1,1),(true,2,3),(true,3,7),(true,4,15),(false,5,31),(true,6,63),(false,7,127)] fo Pl.vT (by kernel_rfl) ⟨Cb.ext k97 (Ext.drew (Ext.refl w7)),Cb.ext k87 (Ext.drew (Ext.refl w7)),Cb.ext k67 (Ext.drew (Ext.refl w7))⟩ ?_
 have dU:=Ext.drew (Ext.refl w7)
 generalize w7.drew=w8 at *
 intro jk
 refine Pl.aX jk rfl rfl rfl rfl rfl (fun X hX=>Cb.limbs hX.1) ?_
 refine Pl.aX jk rfl rfl rfl rfl rfl (fun X hX=>Cb.int hX.2.1) ?_
 refine Pl.aN (v:=.int .i64 (((quo a b).length%2:Nat):Int)) jk rfl rfl rfl rfl rfl rfl (fun X=>Zl (b:=2) rfl rfl (by decide) (by omega) (by decide) X) ?_
 refine Pl.aN (v:=.bool sb) jk rfl rfl rfl rfl rfl rfl (fun X=>JU (by rw [← hsb,Bool.eq_iff_iff];simp;omega) X) ?_
 refine Pl.aX jk rfl rfl rfl rfl rfl (fun X hX=>Cb.limbs hX.2.2) ?_
 refine Pl.az rfl rfl rfl rfl rfl (fun u X=>Pl.enters Tryz.func35 (by kernel_rfl) rfl u X) ?_
 refine Calls.mono (iq _ sb _ (limbs (cs (quo a b) 1 0).1) (Un.below h17 dU) _ (aO _) _ rfl) ?_
 rintro e w9 ⟨z,rfl,hz,gW⟩
 have nK:=jk |> fun h=>(⟨Cb.ext h.1 gW,Cb.ext h.2.1 gW,Cb.ext h.2.2 gW⟩:Cb w9 N9 22 [.slice Ag (limbs P).length cg]∧Cb w9 N8 3 [.int .i64 (((quo a b).length:Nat):Int)]∧Cb w9 N6 22 [.slice Af (limbs (cs (quo a b) 1 0).1).length cf1])
 obtain ⟨pz,Az,nz,cz,rfl⟩:=Zn.sh hz
 have QO:=dU.below gW
 have VW:=Cb.ext k57 QO
 refine ⟨_,rfl,nK,?_⟩
 refine Pl.aF nK rfl rfl rfl rfl rfl ?_
 have vD:Xt [N5] w9 (w9.setRow N5 ([.bool pz,.slice Az nz cz]:List Value).toArray):=Xt.put VW (yS _ _ _ _) (by simp) _
 refine iC (new:=[.bool pz,.slice Az nz cz]) VW rfl rfl rfl rfl rfl rfl (by kernel_rfl) rfl (by simp [Value.oneCell']) ⟨vD.cb nK.1 (by simp;omega),vD.cb nK.2.1 (by simp;omega),vD.cb nK.2.2 (by simp;omega)⟩ ?_
 have Zt:=Cb.put VW [.bool pz,.slice Az nz cz]
 generalize w9.setRow N5 ([.bool pz,.slice Az nz cz]:List Value).toArray=uY at *
 refine Pl.aj ?_
 have KP:=(hL7.xt (Xt.ext (Bs:=[]) QO) (by simp)).xt vD (by simp;omega)
 have Ua:=Xt.putObj KP.dfr rfl (.deferred none)
 have ah1:=(Kp.ext QO).trans (vD.kp.trans Ua.kp)
 refine Pl.vE KP.dfr (vZ rfl rfl rfl (Ua.cb Zt (by simp;omega)) rfl rfl (by kernel_rfl)) ⟨_,_,rfl,by rw [← hPg];exact Un.kp hg7 ah1,?_,KP.ext.xt Ua (by simp;omega)⟩
 rw [vY,hsb]
 exact Zn.kp (Zn.kp hz vD.kp) Ua.kp
end Go.Proofs.YtfhcmggpojhegaaGreatDoor
namespace Go.Proofs.YtfhcmggpojhegaaGreatDoor
open Go.RowKit
set_option linter.all false
set_option maxRecDepth 100000
set_option maxHeartbeats 8000000
theorem EP (a b:Int):a%b=0↔a.natAbs%b.natAbs=0:=by
 rw [← Int.dvd_iff_emod_eq_zero,← Nat.dvd_iff_mod_eq_zero,Int.natAbs_dvd_natAbs]
theorem pQ (w:World) (va vb:Value) (a b:Int) (ha:Zn w va a) (hb:Zn w vb b) (hl:(limbs a.natAbs).length≤1000) (hl2:(limbs b.natAbs).length≤1000) (h0:b=0∨a%b≠0) :
  Calls Tryz.prog 34 #[va,vb] w fun e w'=>e = .returned (.tuple #[.agg #[.bool false,.slice none 0 0],.bool false])∧Ext w w':=by
 have hab:=EP a b
 obtain ⟨p,A,L,c,n,rfl,hu,hL,hz,-,hza,hzn⟩:=ha.open
 obtain ⟨q,B,K,d,m,rfl,hv,hK,hz2,-,iF,jV⟩:=hb.open
 rw [hza,iF] at hab
 rw [hza] at hl
 rw [iF] at hl2
 have hE0:=(((Ext.refl w).alloc (.cells #[.bool p,.slice A L c] 48)).alloc (.cells #[.bool q,.slice B K d] 48)).alloc (.cells #[.bool false,.slice none 0 0] 48)
 have hI0:=Ib.vV w (.cells #[.bool p,.slice A L c] 48) (.cells #[.bool q,.slice B K d] 48) false (.slice none 0 0) 48
 by_cases hm0:m=0
 · subst hm0
   have hD:=Lib.hid (F8 _ (.slice A L c) (.slice B K d) n (hu.below hE0) (hv.below hE0) hl)
   clear hl hl2 hza hzn iF jV hz hz2 hL hK ha hb hu hv h0 hab
   unfold Dz at hD
   go_enter Tryz.func34,Tryz.ntmps34
   go_wp2_with (go_at_call 18;refine hD.out.mono ?_;rintro e w2 ⟨rfl,hE2⟩;obtain ⟨i0,i1,i2,i3,i4⟩:=hI0.ext hE2)
   (try simp only [Exit.inBlock,Exit.then])
   refine bodyPost_ret (v:=.tuple #[.agg #[.bool false,.slice none 0 0],.bool false]) (show (results _ _).run _ _=_ from ?_) rfl ⟨rfl,(hE0.below hE2).dA (by omega) _ _⟩
   simp only [results]
   go_simp
 · obtain ⟨Q,hQ⟩:∃ Q,n/m=Q:=⟨_,rfl⟩
   obtain ⟨R,hR⟩:∃ R,n%m=R:=⟨_,rfl⟩
   have hD:=Lib.hid (iI _ (.slice A L c) (.slice B K d) n m Q R (hu.below hE0) (hv.below hE0) hl hl2 hm0 hQ hR)
   have hR0:R≠0:=by
    rw [hR] at hab
    intro e
    rcases h0 with h | h
    · omega
    · exact h (hab.2 e)
   have hcs:=nR R
   obtain ⟨LR,VU⟩:∃ L,(limbs R).length=L:=⟨_,rfl⟩
   have Zh:=Lib.hid VU
   rw [VU] at hcs
   have hlr:0<LR:=by omega
   have am1:(0:Int)<(LR:Int):=by omega
   clear hl hl2 hza hzn iF jV hz hz2 hL hK ha hb hu hv h0 hab hQ hR hR0 hm0 hcs VU
   unfold Dv at hD
   go_enter Tryz.func34,Tryz.ntmps34
   go_wp2_with (go_at_call 18;refine hD.out.mono ?_;rintro e w2 ⟨⟨vq,vr,rfl,yL,rX⟩,hE2⟩;obtain ⟨A2,c2,rfl,-⟩:=Un.sh yL;obtain ⟨A3,c3,rfl,-⟩:=Un.sh rX;rw [Zh.out] at rX ⊢;obtain ⟨i0,i1,i2,i3,i4⟩:=hI0.ext hE2)
   (try simp only [Exit.inBlock,Exit.then])
   refine bodyPost_ret (v:=.tuple #[.agg #[.bool false,.slice none 0 0],.bool false]) (show (results _ _).run _ _=_ from ?_) rfl ⟨rfl,(hE0.below hE2).dA (by omega) _ _⟩
   simp only [results]
   go_simp
theorem jl (w:World) (va vb:Value) (a b:Int) (ha:Zn w va a) (hb:Zn w vb b) (hl:(limbs a.natAbs).length≤1000) (hl2:(limbs b.natAbs).length≤1000) (h0:b≠0) (hr:a%b=0) (x:Int) (hx:a/b=x) :
  Calls Tryz.prog 34 #[va,vb] w fun e w'=>∃ u,e = .returned (.tuple #[u,.bool true])∧Zn w' u x∧Ext w w':=by
 have hab:=EP a b
 obtain ⟨p,A,L,c,n,rfl,hu,hL,hz,-,hza,hzn⟩:=ha.open
 obtain ⟨q,B,K,d,m,rfl,hv,hK,hz2,-,iF,jV⟩:=hb.open
 rw [hza,iF] at hab
 rw [hza] at hl
 rw [iF] at hl2
 have hR:n%m=0:=hab.1 hr
 have hm0:m≠0:=by omega
 have k1:=(sW p q n m hm0 (.inr hR)).1
 rw [← hz,← hz2,hx] at k1
 have hE0:=(((Ext.refl w).alloc (.cells #[.bool p,.slice A L c] 48)).alloc (.cells #[.bool q,.slice B K d] 48)).alloc (.cells #[.bool false,.slice none 0 0] 48)
 have hI0:=Ib.vV w (.cells #[.bool p,.slice A L c] 48) (.cells #[.bool q,.slice B K d] 48) false (.slice none 0 0) 48
 have lC:=(Ib.new w p (.slice A L c) 48).ext (((Ext.refl _).alloc (.cells #[.bool q,.slice B K d] 48)).alloc (.cells #[.bool false,.slice none 0 0] 48))
 have nL:=(Ib.new2 w (.cells #[.bool p,.slice A L c] 48) q (.slice B K d) 48).ext ((Ext.refl _).alloc (.cells #[.bool false,.slice none 0 0] 48))
 obtain ⟨Q,hQ⟩:∃ Q,n/m=Q:=⟨_,rfl⟩
 have hD:=Lib.hid (iI _ (.slice A L c) (.slice B K d) n m Q 0 (hu.below hE0) (hv.below hE0) hl hl2 hm0 hQ hR)
 rw [hQ] at k1
 have hM1:=Lib.hid (fun W v (h:Un W v Q)=>iq W (!(p==q)) v (limbs Q) h Q (aO _) x k1)
 have HL0:Hid ((limbs 0).length=0):=by show _=_;rw [bf];rfl
 clear hl hl2 hza hzn iF jV hz hz2 hL hK ha hb hu hv h0 hab hR hr hm0 hQ k1 hx
 unfold Dv at hD
 go_enter Tryz.func34,Tryz.ntmps34
 go_wp2_with (first
  | (go_at_call 18;refine hD.out.mono ?_;rintro e w2 ⟨⟨vq,vr,rfl,yL,rX⟩,hE2⟩;obtain ⟨A2,c2,rfl,-⟩:=Un.sh yL;obtain ⟨A3,c3,rfl,-⟩:=Un.sh rX;rw [HL0.out] at rX ⊢;obtain ⟨p0,p1,p2,p3,p4⟩:=lC.ext hE2;obtain ⟨q0,q1,q2,q3,q4⟩:=nL.ext hE2)
  | (go_at_call 35;refine (hM1.out _ _ yL).mono ?_;rintro e w3 ⟨u,rfl,hz3,bJ⟩;obtain ⟨b3,A4,L3,c4,rfl⟩:=hz3.sh;have kH:=(hI0.ext hE2).ext bJ;obtain ⟨i0,i1,i2,i3,i4⟩:=id kH))
 (try simp only [Exit.inBlock,Exit.then])
 refine bodyPost_ret (v:=.tuple #[.agg #[.bool b3,.slice A4 L3 c4],.bool true]) (show (results _ _).run _ _=_ from ?_) rfl ⟨_,rfl,hz3.dA kH (aP _ _ _) _ _,((hE0.below hE2).below bJ).dA (by omega) _ _⟩
 simp only [results]
 go_simp
end Go.Proofs.YtfhcmggpojhegaaGreatDoor
namespace Go.Proofs.YtfhcmggpojhegaaGreatDoor
open Go.RowKit
set_option linter.all false
set_option maxRecDepth 100000
set_option maxHeartbeats 8000000
theorem Gc (w:World) (va vb:Value) (a b:Int) (ha:Zn w va a) (hb:Zn w vb b) (hl:(limbs a.natAbs).length≤1000000) (hl2:(limbs b.natAbs).length≤1000000) (y:Int) (hy:a-b=y) :
  Calls Tryz.prog 91 #[va,vb] w fun e w'=>∃ u,e = .returned u∧Zn w' u y∧Ext w w':=by
 have hN:=Lib.hid (fun W h=>ahN W vb b h (-b) rfl)
 have hA:=Lib.hid (fun W u h (g:Zn W u (-b))=>CB W va u a (-b) h g hl (by rw [Int.natAbs_neg];exact hl2) y (by rw [← Int.sub_eq_add_neg];exact hy))
 have ha':=ha
 have hb':=hb
 obtain ⟨p,A,L,c,n,rfl,hu,hL,hz,-,hza,hzn⟩:=ha.open
 obtain ⟨q,B,K,d,m,rfl,hv,hK,hz2,-,iF,jV⟩:=hb.open
 have hE0:=((((Ext.refl w).alloc (.cells #[.bool p,.slice A L c] 48)).alloc (.cells #[.bool q,.slice B K d] 48)).alloc (.cells #[.bool false,.slice none 0 0] 48)).drew
 have hI0:=(Ib.vV w (.cells #[.bool p,.slice A L c] 48) (.cells #[.bool q,.slice B K d] 48) false (.slice none 0 0) 48).ext (Ext.refl _).drew
 have lC:=(Ib.new w p (.slice A L c) 48).ext ((((Ext.refl _).alloc (.cells #[.bool q,.slice B K d] 48)).alloc (.cells #[.bool false,.slice none 0 0] 48)).drew)
 have nL:=(Ib.new2 w (.cells #[.bool p,.slice A L c] 48) q (.slice B K d) 48).ext (((Ext.refl _).alloc (.cells #[.bool false,.slice none 0 0] 48)).drew)
 have hS0:(w.heap.size+1+1<(((w.alloc (.cells #[.bool p,.slice A L c] 48)).alloc (.cells #[.bool q,.slice B K d] 48)).alloc (.cells #[.bool false,.slice none 0 0] 48)).drew.heap.size∧(((w.alloc (.cells #[.bool p,.slice A L c] 48)).alloc (.cells #[.bool q,.slice B K d] 48)).alloc (.cells #[.bool false,.slice none 0 0] 48)).drew.cell? ⟨w.heap.size,0,none⟩=some (.bool p)∧(((w.alloc (.cells #[.bool p,.slice A L c] 48)).alloc (.cells #[.bool q,.slice B K d] 48)).alloc (.cells #[.bool false,.slice none 0 0] 48)).drew.cell? ⟨w.heap.size,1,none⟩=some (.slice A L c)∧(((w.alloc (.cells #[.bool p,.slice A L c] 48)).alloc (.cells #[.bool q,.slice B K d] 48)).alloc (.cells #[.bool false,.slice none 0 0] 48)).drew.cell? ⟨w.heap.size+1,0,none⟩=some (.bool q)∧(((w.alloc (.cells #[.bool p,.slice A L c] 48)).alloc (.cells #[.bool q,.slice B K d] 48)).alloc (.cells #[.bool false,.slice none 0 0] 48)).drew.cell? ⟨w.heap.size+1,1,none⟩=some (.slice B K d))∧Ext w (((w.alloc (.cells #[.bool p,.slice A L c] 48)).alloc (.cells #[.bool q,.slice B K d] 48)).alloc (.cells #[.bool false,.slice none 0 0] 48)).drew:=⟨⟨by simp,lC.2.1,lC.2.2.1,nL.2.1,nL.2.2.1⟩,hE0⟩
 have ha0:=ha'.below hE0
 have hb0:=hb'.below hE0
 clear hl hl2 hza hzn iF jV hz hz2 hL hK ha hb hy lC nL ha' hb'
 go_enter Tryz.func91,Tryz.ntmps91
 go_wp2
 go_region_held3 (fun X=>(w.heap.size+1+1<X.heap.size∧X.cell? ⟨w.heap.size,0,none⟩=some (.bool p)∧X.cell? ⟨w.heap.size,1,none⟩=some (.slice A L c)∧X.cell? ⟨w.heap.size+1,0,none⟩=some (.bool q)∧X.cell? ⟨w.heap.size+1,1,none⟩=some (.slice B K d))∧Ext w X)
  (first
   | exact hS0
   | exact yO (by assumption) (by assumption)
   | exact yP (by assumption))
  (first
   | (go_at_call 148;((with_reducible refine (hN.out _ hb0).mono ?_);rintro e w2 ⟨u,rfl,hz2,hE2⟩;obtain ⟨b2,A2,L2,c2,rfl⟩:=hz2.sh))
   | (go_at_call 37;((with_reducible refine (hA.out _ _ (ha0.below hE2) hz2).mono ?_);rintro e w3 ⟨u,rfl,hz3,bJ⟩;obtain ⟨b3,A3,L3,c3,rfl⟩:=hz3.sh;have kH:=(hI0.ext hE2).ext bJ;obtain ⟨i0,i1,i2,i3,i4⟩:=id kH)))
 clear hN hA
 clear kH
 go_wp2
 (try simp only [Exit.inBlock,Exit.then])
 refine bodyPost_ret (v:=.agg #[.bool b3,.slice A3 L3 c3]) (show (results _ _).run _ _=_ from ?_) rfl ⟨_,rfl,hz3.dA ((hI0.ext hE2).ext bJ) (aP _ _ _) _ _,((hE0.below hE2).below bJ).dA (by omega) _ _⟩
 simp only [results]
 go_simp
end Go.Proofs.YtfhcmggpojhegaaGreatDoor
namespace Go.Proofs.YtfhcmggpojhegaaGreatDoor
open Go.RowKit
set_option linter.all false
set_option maxRecDepth 100000
set_option maxHeartbeats 8000000
namespace EGE
set_option linter.all false
set_option maxRecDepth 100000
set_option maxHeartbeats 8000000
theorem as1 (u:Array Value) (X:World):(callFunc 89 u).run Tryz.prog X = .ok (.enter 89 u) X:=Pl.enters Tryz.func89 (by kernel_rfl) rfl u X
theorem ah2 (u:Array Value) (X:World):(callFunc 90 u).run Tryz.prog X = .ok (.enter 90 u) X:=Pl.enters Tryz.func90 (by kernel_rfl) rfl u X
theorem Gf (u:Array Value) (X:World):(callFunc 91 u).run Tryz.prog X = .ok (.enter 91 u) X:=Pl.enters Tryz.func91 (by kernel_rfl) rfl u X
theorem jm (u:Array Value) (X:World):(callFunc 35 u).run Tryz.prog X = .ok (.enter 35 u) X:=Pl.enters Tryz.func35 (by kernel_rfl) rfl u X
theorem Lu (u:Array Value) (X:World):(callFunc 38 u).run Tryz.prog X = .ok (.enter 38 u) X:=Pl.enters Tryz.func38 (by kernel_rfl) rfl u X
theorem QR (u:Array Value) (X:World):(callFunc 34 u).run Tryz.prog X = .ok (.enter 34 u) X:=Pl.enters Tryz.func34 (by kernel_rfl) rfl u X
end EGE
open EGE
theorem eH (w:World) (v:Value) (n:Nat) (h:Un w v n):Calls Tryz.prog 35 #[.bool false,v] w fun e w'=>∃ u,e = .returned u∧Zn w' u (n:Int)∧Ext w w' :=
 iq w false v (limbs n) h n (aO _) (n:Int) (kM n)
theorem T2.un {w w':World} (T2:∀ v z,Zn w v z→Zn w' v z) {v:Value} {n:Nat} (h:Un w v n):Un w' v n:=by
 obtain ⟨A,c,rfl,-⟩:=Un.sh h
 have hz:Zn w (.agg #[.bool false,.slice A (limbs n).length c]) (n:Int):=⟨A,c,by simp,by simpa using h⟩
 have:=Zn.mag (T2 _ _ hz)
 simpa using this
section
variable {L:List Oper} {S:World→Prop} {K:List (Nat × Value)→World→Prop} {i m:Nat} {o:Oper} {x y:Operand} {r:List (Bool × Nat × Nat)} {l:List (Nat × Value)} {w:World} {N n0 c0 n c:Nat} {b0 b:Bool} {A0 A:Option Addr}
theorem Gg (ho:Pl.nth L i=some o) (hp:o.op = .store 48 x y) (hd:o.dst=none) (hg:o.guard=none) (hx:Pl.dF l x=some (.pointer (some ⟨N,0,none⟩))) (hy:Pl.dF l y=some (.agg #[.bool b,.slice A n c]))
  (hI:Ib w N b0 (.slice A0 n0 c0)) (hS:∀ Y,(∀ M b m,M≠N→Ib w M b m→Ib Y M b m)→S Y)
  (h:∀ w',(∀ w0,Ext w0 w→w0.heap.size≤N→Ext w0 w')→(∀ v z,Zn w v z→Zn w' v z)→(∀ M b m,M≠N→Ib w M b m→Ib w' M b m)→Ib w' N b (.slice A n c)→Pl.dO Tryz.prog L S K r l w'):Pl.dO Tryz.prog L S K ((false,i,m)::r) l w:=by
 obtain ⟨r1,I1⟩:=mE hI b A n c
 have T1:∀ w0,Ext w0 w→w0.heap.size≤N→Ext w0 ((w.setCell ⟨N,0,none⟩ (.bool b)).setCell ⟨N,1,none⟩ (.slice A n c)):=fun w0 h hN=>h.dA hN _ _
 have T3:∀ M b' m',M≠N→Ib w M b' m'→Ib ((w.setCell ⟨N,0,none⟩ (.bool b)).setCell ⟨N,1,none⟩ (.slice A n c)) M b' m':=fun M b m hne hM=>hM.other hne _ _
 exact Pl.aW ho hp hd (by rw [hg];rfl) hx hy r1 (hS _ T3) (h _ T1 (fun v z hz=>hz.dA hI (aP _ _ _) _ _) T3 I1)
end
theorem Gi (a b:Int):∀ (l:List Nat) (x y s t:Int),(cf l x y).1*a+(cf l s t).1*b=(cf l (x*a+s*b) (y*a+t*b)).1∧(cf l x y).2*a+(cf l s t).2*b=(cf l (x*a+s*b) (y*a+t*b)).2
 | [],x,y,s,t=>⟨rfl,rfl⟩
 | k::l,x,y,s,t=>by
  have h:=Gi a b l y (x-k*y) t (s-k*t)
  have e:(x-k*y)*a+(s-k*t)*b=(x*a+s*b)-k*(y*a+t*b):=by grind
  rw [e] at h
  exact h
theorem Lv (a b:Nat):(cf (quo a b) (a:Int) (b:Int)).1=(Nat.gcd a b:Nat):=by
 induction b using Nat.strongRecOn generalizing a with
 | ind b ih =>
  by_cases h:b=0
  · subst h;rw [lN,Nat.gcd_zero_right];rfl
  · rw [nY h]
    have e:((a:Int)-((a/b:Nat):Int)*(b:Int))=((a%b:Nat):Int):=by
     have:=Nat.div_add_mod a b
     have h2:((b*(a/b)+a%b:Nat):Int)=(a:Int):=by rw [this]
     rw [Int.natCast_add,Int.natCast_mul,Int.mul_comm] at h2
     omega
    show (cf (quo b (a%b)) (b:Int) ((a:Int)-((a/b:Nat):Int)*(b:Int))).1=_
    rw [e,ih (a%b) (Nat.mod_lt _ (Nat.pos_of_ne_zero h)) b,Lg]
theorem bez (a b:Nat):(cf (quo a b) 1 0).1*(a:Int)+(cf (quo a b) 0 1).1*(b:Int)=(Nat.gcd a b:Nat):=by
 have h:=(Gi (a:Int) (b:Int) (quo a b) 1 0 0 1).1
 rw [h,← Lv a b]
 congr 2<;>simp
theorem ku (a b:Nat):(((Nat.gcd a b:Nat):Int)-(cf (quo a b) 1 0).1*(a:Int))=(cf (quo a b) 0 1).1*(b:Int):=by have:=bez a b;omega
theorem JV {a b:Nat} (hb:Sn b 90):Sz (cf (quo a b) 1 0).1 90:=by
 have h:=qi (a:=a) (b:=b) (pl:=quo a b) (rest:=[]) (by simp)
 show (limbs (cf (quo a b) 1 0).1.natAbs).length≤90
 have e:(cf (quo a b) 1 0).1.natAbs=(cs (quo a b) 1 0).1:=by
  rw [vY];cases decide ((quo a b).length%2=1)
  · rw [kM];omega
  · rw [um];omega
 rw [e]
 exact (uA hb).down h.1
theorem rQ {a b:Nat} (ha:Sn a 90):Sz (cf (quo a b) 0 1).1 90:=by
 obtain ⟨P,Q,_,hc⟩:=uy (A:=a) (M:=max a 1) (quo a b) a b 0 1 [] (Cf.second b (Nat.le_max_left a 1) (Nat.le_max_right a 1)) (by simp)
 exact (uA ha).down hc.left
theorem Lx {a b:Nat} (ha:Sn a 90) (hb:Sn b 90):Sn (Nat.gcd a b) 90:=by
 rcases Nat.eq_zero_or_pos a with h | h
 · rw [h,Nat.gcd_zero_left];exact hb
 · exact ha.down (Nat.gcd_le_left b h)
theorem EQ {n:Nat} {cs:List Code} {l:List (Nat × Value)} {w:World} {fn:Func} {R:Ending→World→Prop} {t t2 t3:Tmp} {v:Value} {N M:Nat} {b b':Bool} {m m':Value} (hr:fn.results=#[.tmp t,.cell t2 48,.cell t3 48]) (hv:Pl.look l t=some v) (hv2:Pl.look l t2=some (.pointer (some ⟨N,0,none⟩))) (hv3:Pl.look l t3=some (.pointer (some ⟨M,0,none⟩)))
  (hI:Ib w N b m) (hJ:Ib w M b' m') (h:R (.returned (.tuple #[v,.agg #[.bool b,m],.agg #[.bool b',m']])) w):Pl.V Tryz.prog (bodyPost Tryz.prog fn R) n [] (.ret::cs) l w:=Pl.zY fun a ha=>by
 refine ⟨ha.defers,_,?_,h⟩
 obtain ⟨h0,h1,h2,h3,h4⟩:=hI
 obtain ⟨g0,g1,g2,g3,g4⟩:=hJ
 unfold results
 rw [hr]
 have e0:a.tmps.getD t undef=v:=by rw [Array.getD_eq_getD_getElem?,ha.look t _ hv];rfl
 have e:a.tmps.getD t2 undef = .pointer (some ⟨N,0,none⟩):=by rw [Array.getD_eq_getD_getElem?,ha.look t2 _ hv2];rfl
 have e':a.tmps.getD t3 undef = .pointer (some ⟨M,0,none⟩):=by rw [Array.getD_eq_getD_getElem?,ha.look t3 _ hv3];rfl
 simp only [List.mapM_toArray,List.mapM_cons,List.mapM_nil,e0,e,e']
 go_simp
theorem NT (w:World) (CE Zu:Value) (a b:Nat) (LA:Un w CE a) (LC:Un w Zu b) (hla:Sn a 90) (hlb:Sn b 90) (hb0:b=0) :
  Calls Tryz.prog 33 #[CE,Zu] w fun e w'=>∃ g u v,e = .returned (.tuple #[g,u,v])∧Un w' g (Nat.gcd a b)∧Zn w' u (cf (quo a b) 1 0).1∧Zn w' v (cf (quo a b) 0 1).1∧Ext w w':=by
 refine Pl.aZ (n:=41) (vs:=[CE,Zu]) Tryz.func33 rfl (by kernel_rfl) (by simp) ?_
 refine Pl.ay ?_
 refine Pl.ak (by kernel_rfl) ?_
 refine Pl.aF trivial rfl rfl rfl rfl rfl ?_
 refine bW rfl rfl rfl rfl (fun _ _=>trivial) ?_
 intro N1 w1 hB1 uU i_1
 refine bW rfl rfl rfl rfl (fun _ _=>trivial) ?_
 intro N2 w2 hB2 uV i_2
 refine Pl.aj ?_
 refine Pl.ay ?_
 refine Pl.ay ?_
 refine Pl.ak (by kernel_rfl) ?_
 refine Pl.aA trivial rfl rfl rfl rfl rfl ?_
 obtain ⟨Jd,Je,rfl,-⟩:=Un.sh LC
 refine eT trivial rfl rfl rfl rfl rfl ?_
 refine Pl.aN (v:=(.bool true)) trivial rfl rfl rfl rfl rfl rfl (fun X=>JU (EO.trans (decide_eq_true hb0)) X) ?_
 refine Pl.aj ?_
 refine Pl.cK rfl ?_
 refine Pl.ay ?_
 refine Pl.ak (by kernel_rfl) ?_
 refine Pl.aA trivial rfl rfl rfl rfl rfl ?_
 refine Pl.az rfl rfl rfl rfl rfl as1 ?_
 refine Calls.mono (zof _ 1 (by decide) (by decide)) ?_
 rintro e w3 ⟨lH,rfl,uB,hB3⟩
 refine ⟨_,rfl,trivial,?_⟩
 refine Pl.dB (v:=.agg #[.bool false,.slice none 0 0]) trivial rfl rfl rfl (fun ρ hρ X _=>by simp [go_sem]) ?_
 refine Pl.aF trivial rfl rfl rfl rfl rfl ?_
 obtain ⟨az3,az4,az5,az6,rfl⟩:=Zn.sh uB
 have ah3:=Ib.ext i_1 (Ext.below hB2 hB3)
 refine lG rfl rfl rfl rfl rfl rfl ah3 (fun _ _=>trivial) ?_
 have ah4:=Ib.ext i_2 hB3
 intro w4 as2 as3 as4 I_4
 have hB4:=as2 _ (Ext.below hB1 (Ext.below hB2 hB3)) (Nat.le_trans (Below.size (Ext.refl w)) uU)
 have ah5:=as4 _ _ _ (Nat.ne_of_gt (Nat.lt_of_lt_of_le (Ib.ext i_1 (Ext.refl w1)).1 uV)) ah4
 have ad5:=as3 _ _ uB
 refine lG rfl rfl rfl rfl rfl rfl ah5 (fun _ _=>trivial) ?_
 intro w5 QS ad6 Zv I_5
 have dJ:=QS _ hB4 (Nat.le_trans (Below.size hB1) uV)
 have ad8:=ad6 _ _ ad5
 have ah6:=Zv _ _ _ (Nat.ne_of_lt (Nat.lt_of_lt_of_le (Ib.ext i_1 (Ext.refl w1)).1 uV)) I_4
 refine Pl.aj ?_
 refine EQ rfl rfl rfl rfl ah6 I_5 ?_
 have Gj:=Un.below LA dJ
 exact ⟨_,_,_,rfl,by rw [hb0,Nat.gcd_zero_right];exact Gj,by rw [hb0,lN];exact ad8,by rw [hb0,lN];exact (Zn.zero _ _ _),dJ⟩
theorem wh (w:World) (CE Zu:Value) (a b:Nat) (LA:Un w CE a) (LC:Un w Zu b) (hla:Sn a 90) (hlb:Sn b 90) (hb0:b≠0) :
  Calls Tryz.prog 33 #[CE,Zu] w fun e w'=>∃ g u v,e = .returned (.tuple #[g,u,v])∧Un w' g (Nat.gcd a b)∧Zn w' u (cf (quo a b) 1 0).1∧Zn w' v (cf (quo a b) 0 1).1∧Ext w w':=by
 refine Pl.aZ (n:=41) (vs:=[CE,Zu]) Tryz.func33 rfl (by kernel_rfl) (by simp) ?_
 refine Pl.ay ?_
 refine Pl.ak (by kernel_rfl) ?_
 refine Pl.aF trivial rfl rfl rfl rfl rfl ?_
 refine bW rfl rfl rfl rfl (fun _ _=>trivial) ?_
 intro N1 w1 hB1 uU i_1
 refine bW rfl rfl rfl rfl (fun _ _=>trivial) ?_
 intro N2 w2 hB2 uV i_2
 refine Pl.aj ?_
 refine Pl.ay ?_
 refine Pl.ay ?_
 refine Pl.ak (by kernel_rfl) ?_
 refine Pl.aA trivial rfl rfl rfl rfl rfl ?_
 obtain ⟨Jd,Je,rfl,-⟩:=Un.sh LC
 refine eT trivial rfl rfl rfl rfl rfl ?_
 refine Pl.aN (v:=(.bool false)) trivial rfl rfl rfl rfl rfl rfl (fun X=>JU (EO.trans (decide_eq_false hb0)) X) ?_
 refine Pl.aj ?_
 refine Pl.bn rfl ?_
 refine Pl.bM ?_
 refine Pl.ay ?_
 refine Pl.ak (by kernel_rfl) ?_
 refine Pl.aA trivial rfl rfl rfl rfl rfl ?_
 refine Pl.aA trivial rfl rfl rfl rfl rfl ?_
 have uC:=Un.below LA (Ext.below hB1 hB2)
 have yT:=Un.below LC (Ext.below hB1 hB2)
 refine Pl.az rfl rfl rfl rfl rfl ah2 ?_
 refine Calls.mono (qj _ _ _ a b uC yT hla hlb) ?_
 rintro e w3 ⟨lH,CF,rfl,uB,nC,hB3⟩
 refine ⟨_,rfl,trivial,?_⟩
 have Er:Sn (Nat.gcd a b) 90:=Lx hla hlb
 have jJ:Sz (cf (quo a b) 1 0).1 90:=JV hlb
 refine Pl.aA trivial rfl rfl rfl rfl rfl ?_
 refine Pl.aL trivial rfl rfl rfl rfl rfl rfl ?_
 refine Pl.aL trivial rfl rfl rfl rfl rfl rfl ?_
 refine bW rfl rfl rfl rfl (fun _ _=>trivial) ?_
 intro N7 w4 hB4 uD i_7
 refine Pl.aF trivial rfl rfl rfl rfl rfl ?_
 obtain ⟨sZ,tq,tu,tC,rfl⟩:=Zn.sh nC
 refine lG rfl rfl rfl rfl rfl rfl i_7 (fun _ _=>trivial) ?_
 intro w5 QS ad6 Zv I_5
 have dJ:=QS _ hB4 (Nat.le_trans (Below.size (Ext.refl w3)) uD)
 refine Pl.aj ?_
 refine Pl.ay ?_
 refine Pl.j6 (S:=fun X=>Ext w5 X) fo (Ext.drew (Ext.refl _)) ?_
 generalize w5.drew=w6
 intro dV
 have gP:=dV
 refine Pl.oN 1 255 (fun l' w'=>∃ (N_9:Nat) (Zw:Value),l'=[(1,.slice Jd (limbs b).length Je),(4,.slice none 0 0),(5,.pointer (some ⟨N1,0,none⟩)),(6,.pointer (some ⟨N2,0,none⟩)),(7,lH),(8,.pointer (some ⟨N7,0,none⟩)),(9,.pointer (some ⟨N_9,0,none⟩)),(30,Zw)]∧Ext w5 w'∧w5.heap.size≤N_9∧Ib w' N_9 false (.slice none 0 0)∧Zn w' Zw ((((Nat.gcd a b):Nat):Int)-((cf (quo a b) 1 0).1*((a:Nat):Int)))) ?_ ?_
 rotate_left
 · intro hK
   refine Pl.aM [(true,0,0),(true,2,1),(true,3,5)] 13 6 Pl.aB (by kernel_rfl) (by kernel_rfl) (by kernel_rfl) ?_
   refine Pl.aA gP rfl rfl rfl rfl rfl ?_
   refine Pl.aX gP rfl rfl rfl rfl rfl (fun X hX=>Ib.load (Ib.ext I_5 hX)) ?_
   refine Pl.aA gP rfl rfl rfl rfl rfl ?_
   refine Pl.aj ?_
   refine Pl.bS [1,7] 5 (by kernel_rfl) (by kernel_rfl) (by kernel_rfl) (Pl.aC ?_ (Pl.aC ?_ Pl.aR))
   · have LD:=Un.below uB (Ext.below dJ dV)
     refine Pl.az rfl rfl rfl rfl rfl jm ?_
     refine Calls.mono (eH _ _ (Nat.gcd a b) LD) ?_
     rintro e w7 ⟨as5,rfl,LF,dP⟩
     have iK:=Ext.below gP dP
     refine ⟨_,rfl,iK,?_⟩
     have rR:Sz (((Nat.gcd a b):Nat):Int) 90:=Sn.sz Er
     refine Pl.aj ?_
     refine Pl.bS [4,7] 4 (by kernel_rfl) (by kernel_rfl) (by kernel_rfl) (Pl.aC ?_ (Pl.aC ?_ Pl.aR))
     · have QT:=Un.below uC (Ext.below hB3 (Ext.below dJ (Ext.below dV dP)))
       refine Pl.az rfl rfl rfl rfl rfl jm ?_
       refine Calls.mono (eH _ _ a QT) ?_
       rintro e w8 ⟨am8,rfl,NU,dU⟩
       have jk:=Ext.below iK dU
       refine ⟨_,rfl,jk,?_⟩
       have tF:Sz ((a:Nat):Int) 90:=Sn.sz hla
       refine Pl.aj ?_
       refine Pl.bS [5,7] 3 (by kernel_rfl) (by kernel_rfl) (by kernel_rfl) (Pl.aC ?_ (Pl.aC ?_ Pl.aR))
       · have nD:=Zn.below nC (Ext.below dJ (Ext.below dV (Ext.below dP dU)))
         refine Pl.az rfl rfl rfl rfl rfl Lu ?_
         refine Calls.mono (lT _ _ _ ((cf (quo a b) 1 0).1) ((a:Nat):Int) nD NU (Sz.le jJ (by decide)) (Sz.le tF (by decide)) _ rfl) ?_
         rintro e w9 ⟨Ub,rfl,Gm,gW⟩
         have nK:=Ext.below jk gW
         refine ⟨_,rfl,nK,?_⟩
         have iE:Sz ((cf (quo a b) 1 0).1*((a:Nat):Int)) 180:=Sz.mul jJ tF (by decide)
         refine Pl.aj ?_
         refine Pl.bS [6,7] 2 (by kernel_rfl) (by kernel_rfl) (by kernel_rfl) (Pl.aC ?_ (Pl.aC ?_ Pl.aR))
         · have LG:=Zn.below LF (Ext.below dU gW)
           refine Pl.az rfl rfl rfl rfl rfl Gf ?_
           refine Calls.mono (Gc _ _ _ (((Nat.gcd a b):Nat):Int) ((cf (quo a b) 1 0).1*((a:Nat):Int)) LG Gm (Sz.le rR (by decide)) (Sz.le iE (by decide)) _ rfl) ?_
           rintro e uY ⟨Gn,rfl,Gp,gy⟩
           have fQ:=Ext.below nK gy
           refine ⟨_,rfl,fQ,?_⟩
           have qo:Sz ((((Nat.gcd a b):Nat):Int)-((cf (quo a b) 1 0).1*((a:Nat):Int))) 181:=Sz.sub rR iE (by decide) (by decide)
           refine Pl.aj ?_
           refine Pl.aM [(false,7,127)] 255 1 Pl.aB (by kernel_rfl) (by kernel_rfl) (by kernel_rfl) ?_
           refine bW rfl rfl rfl rfl (fun _ k=>Ext.below fQ k) ?_
           intro zZ BU iD uS ah9
           have jD:=Ext.below fQ iD
           refine Pl.aj ?_
           have CG:=Zn.below Gp iD
           exact Pl.bN [(1,.slice Jd (limbs b).length Je),(4,.slice none 0 0),(5,.pointer (some ⟨N1,0,none⟩)),(6,.pointer (some ⟨N2,0,none⟩)),(7,lH),(8,.pointer (some ⟨N7,0,none⟩)),(9,.pointer (some ⟨zZ,0,none⟩)),(30,Gn)] (Pl.aa rfl (Pl.aa rfl (Pl.aa rfl (Pl.aa rfl (Pl.aa rfl (Pl.aa rfl (Pl.aa rfl (Pl.aa rfl Pl.aI)))))))) (hK _ _ ⟨zZ,Gn,rfl,(Ext.below dV (Ext.below dP (Ext.below dU (Ext.below gW (Ext.below gy iD))))),(Nat.le_trans (Below.size (Ext.below dV (Ext.below dP (Ext.below dU (Ext.below gW gy))))) uS),ah9,CG⟩)
         · refine bW rfl rfl rfl rfl (fun _ k=>Ext.below nK k) ?_
           intro N14 uY gy Zx ah'
           have fQ:=Ext.below nK gy
           refine Pl.aj ?_
           refine Pl.aM [(false,6,191)] 255 1 Pl.aB (by kernel_rfl) (by kernel_rfl) (by kernel_rfl) ?_
           have kN:=Zn.below LF (Ext.below dU (Ext.below gW gy))
           have CJ:=Zn.below Gm gy
           refine Pl.az rfl rfl rfl rfl rfl Gf ?_
           refine Calls.mono (Gc _ _ _ (((Nat.gcd a b):Nat):Int) ((cf (quo a b) 1 0).1*((a:Nat):Int)) kN CJ (Sz.le rR (by decide)) (Sz.le iE (by decide)) _ rfl) ?_
           rintro e BU ⟨wm,rfl,Gq,iD⟩
           have jD:=Ext.below fQ iD
           refine ⟨_,rfl,jD,?_⟩
           have Zy:Sz ((((Nat.gcd a b):Nat):Int)-((cf (quo a b) 1 0).1*((a:Nat):Int))) 181:=Sz.sub rR iE (by decide) (by decide)
           refine Pl.aj ?_
           have Gs:=Ib.ext ah' iD
           exact Pl.bN [(1,.slice Jd (limbs b).length Je),(4,.slice none 0 0),(5,.pointer (some ⟨N1,0,none⟩)),(6,.pointer (some ⟨N2,0,none⟩)),(7,lH),(8,.pointer (some ⟨N7,0,none⟩)),(9,.pointer (some ⟨N14,0,none⟩)),(30,wm)] (Pl.aa rfl (Pl.aa rfl (Pl.aa rfl (Pl.aa rfl (Pl.aa rfl (Pl.aa rfl (Pl.aa rfl (Pl.aa rfl Pl.aI)))))))) (hK _ _ ⟨N14,wm,rfl,(Ext.below dV (Ext.below dP (Ext.below dU (Ext.below gW (Ext.below gy iD))))),(Nat.le_trans (Below.size (Ext.below dV (Ext.below dP (Ext.below dU gW)))) Zx),Gs,Gq⟩)
       · refine bW rfl rfl rfl rfl (fun _ k=>Ext.below jk k) ?_
         intro Xg w9 gW D8 QU
         have nK:=Ext.below jk gW
         refine Pl.aj ?_
         refine Pl.aM [(false,5,159),(false,6,191)] 255 1 Pl.aB (by kernel_rfl) (by kernel_rfl) (by kernel_rfl) ?_
         have nE:=Zn.below nC (Ext.below dJ (Ext.below dV (Ext.below dP (Ext.below dU gW))))
         have Gt:=Zn.below NU gW
         refine Pl.az rfl rfl rfl rfl rfl Lu ?_
         refine Calls.mono (lT _ _ _ ((cf (quo a b) 1 0).1) ((a:Nat):Int) nE Gt (Sz.le jJ (by decide)) (Sz.le tF (by decide)) _ rfl) ?_
         rintro e uY ⟨Gn,rfl,Gp,gy⟩
         have fQ:=Ext.below nK gy
         refine ⟨_,rfl,fQ,?_⟩
         have qo:Sz ((cf (quo a b) 1 0).1*((a:Nat):Int)) 180:=Sz.mul jJ tF (by decide)
         have kN:=Zn.below LF (Ext.below dU (Ext.below gW gy))
         refine Pl.az rfl rfl rfl rfl rfl Gf ?_
         refine Calls.mono (Gc _ _ _ (((Nat.gcd a b):Nat):Int) ((cf (quo a b) 1 0).1*((a:Nat):Int)) kN Gp (Sz.le rR (by decide)) (Sz.le qo (by decide)) _ rfl) ?_
         rintro e BU ⟨wm,rfl,Gq,iD⟩
         have jD:=Ext.below fQ iD
         refine ⟨_,rfl,jD,?_⟩
         have Zy:Sz ((((Nat.gcd a b):Nat):Int)-((cf (quo a b) 1 0).1*((a:Nat):Int))) 181:=Sz.sub rR qo (by decide) (by decide)
         refine Pl.aj ?_
         have Gv:=Ib.ext QU (Ext.below gy iD)
         exact Pl.bN [(1,.slice Jd (limbs b).length Je),(4,.slice none 0 0),(5,.pointer (some ⟨N1,0,none⟩)),(6,.pointer (some ⟨N2,0,none⟩)),(7,lH),(8,.pointer (some ⟨N7,0,none⟩)),(9,.pointer (some ⟨Xg,0,none⟩)),(30,wm)] (Pl.aa rfl (Pl.aa rfl (Pl.aa rfl (Pl.aa rfl (Pl.aa rfl (Pl.aa rfl (Pl.aa rfl (Pl.aa rfl Pl.aI)))))))) (hK _ _ ⟨Xg,wm,rfl,(Ext.below dV (Ext.below dP (Ext.below dU (Ext.below gW (Ext.below gy iD))))),(Nat.le_trans (Below.size (Ext.below dV (Ext.below dP dU))) D8),Gv,Gq⟩)
     · refine bW rfl rfl rfl rfl (fun _ k=>Ext.below iK k) ?_
       intro N10 w8 dU JW aia
       have jk:=Ext.below iK dU
       refine Pl.aj ?_
       refine Pl.aM [(false,4,143),(false,5,159),(false,6,191)] 255 1 Pl.aB (by kernel_rfl) (by kernel_rfl) (by kernel_rfl) ?_
       have yU:=Un.below uC (Ext.below hB3 (Ext.below dJ (Ext.below dV (Ext.below dP dU))))
       refine Pl.az rfl rfl rfl rfl rfl jm ?_
       refine Calls.mono (eH _ _ a yU) ?_
       rintro e w9 ⟨Zz,rfl,Gw,gW⟩
       have nK:=Ext.below jk gW
       refine ⟨_,rfl,nK,?_⟩
       have wo:Sz ((a:Nat):Int) 90:=Sn.sz hla
       have nE:=Zn.below nC (Ext.below dJ (Ext.below dV (Ext.below dP (Ext.below dU gW))))
       refine Pl.az rfl rfl rfl rfl rfl Lu ?_
       refine Calls.mono (lT _ _ _ ((cf (quo a b) 1 0).1) ((a:Nat):Int) nE Gw (Sz.le jJ (by decide)) (Sz.le wo (by decide)) _ rfl) ?_
       rintro e uY ⟨ZA,rfl,Gx,gy⟩
       have fQ:=Ext.below nK gy
       refine ⟨_,rfl,fQ,?_⟩
       have wu:Sz ((cf (quo a b) 1 0).1*((a:Nat):Int)) 180:=Sz.mul jJ wo (by decide)
       have kN:=Zn.below LF (Ext.below dU (Ext.below gW gy))
       refine Pl.az rfl rfl rfl rfl rfl Gf ?_
       refine Calls.mono (Gc _ _ _ (((Nat.gcd a b):Nat):Int) ((cf (quo a b) 1 0).1*((a:Nat):Int)) kN Gx (Sz.le rR (by decide)) (Sz.le wu (by decide)) _ rfl) ?_
       rintro e BU ⟨ww,rfl,Gy,iD⟩
       have jD:=Ext.below fQ iD
       refine ⟨_,rfl,jD,?_⟩
       have ZB:Sz ((((Nat.gcd a b):Nat):Int)-((cf (quo a b) 1 0).1*((a:Nat):Int))) 181:=Sz.sub rR wu (by decide) (by decide)
       refine Pl.aj ?_
       have Gz:=Ib.ext aia (Ext.below gW (Ext.below gy iD))
       exact Pl.bN [(1,.slice Jd (limbs b).length Je),(4,.slice none 0 0),(5,.pointer (some ⟨N1,0,none⟩)),(6,.pointer (some ⟨N2,0,none⟩)),(7,lH),(8,.pointer (some ⟨N7,0,none⟩)),(9,.pointer (some ⟨N10,0,none⟩)),(30,ww)] (Pl.aa rfl (Pl.aa rfl (Pl.aa rfl (Pl.aa rfl (Pl.aa rfl (Pl.aa rfl (Pl.aa rfl (Pl.aa rfl Pl.aI)))))))) (hK _ _ ⟨N10,ww,rfl,(Ext.below dV (Ext.below dP (Ext.below dU (Ext.below gW (Ext.below gy iD))))),(Nat.le_trans (Below.size (Ext.below dV dP)) JW),Gz,Gy⟩)
   · refine bW rfl rfl rfl rfl (fun _ k=>Ext.below gP k) ?_
     intro N8 w7 dP GG i_8
     have iK:=Ext.below gP dP
     refine Pl.aj ?_
     refine Pl.aM [(false,1,141),(false,4,143),(false,5,159),(false,6,191)] 255 1 Pl.aB (by kernel_rfl) (by kernel_rfl) (by kernel_rfl) ?_
     have uE:=Un.below uB (Ext.below dJ (Ext.below dV dP))
     refine Pl.az rfl rfl rfl rfl rfl jm ?_
     refine Calls.mono (eH _ _ (Nat.gcd a b) uE) ?_
     rintro e w8 ⟨anb,rfl,ZC,dU⟩
     have jk:=Ext.below iK dU
     refine ⟨_,rfl,jk,?_⟩
     have NV:Sz (((Nat.gcd a b):Nat):Int) 90:=Sn.sz Er
     have yU:=Un.below uC (Ext.below hB3 (Ext.below dJ (Ext.below dV (Ext.below dP dU))))
     refine Pl.az rfl rfl rfl rfl rfl jm ?_
     refine Calls.mono (eH _ _ a yU) ?_
     rintro e w9 ⟨Zz,rfl,Gw,gW⟩
     have nK:=Ext.below jk gW
     refine ⟨_,rfl,nK,?_⟩
     have wo:Sz ((a:Nat):Int) 90:=Sn.sz hla
     have nE:=Zn.below nC (Ext.below dJ (Ext.below dV (Ext.below dP (Ext.below dU gW))))
     refine Pl.az rfl rfl rfl rfl rfl Lu ?_
     refine Calls.mono (lT _ _ _ ((cf (quo a b) 1 0).1) ((a:Nat):Int) nE Gw (Sz.le jJ (by decide)) (Sz.le wo (by decide)) _ rfl) ?_
     rintro e uY ⟨ZA,rfl,Gx,gy⟩
     have fQ:=Ext.below nK gy
     refine ⟨_,rfl,fQ,?_⟩
     have wu:Sz ((cf (quo a b) 1 0).1*((a:Nat):Int)) 180:=Sz.mul jJ wo (by decide)
     have CK:=Zn.below ZC (Ext.below gW gy)
     refine Pl.az rfl rfl rfl rfl rfl Gf ?_
     refine Calls.mono (Gc _ _ _ (((Nat.gcd a b):Nat):Int) ((cf (quo a b) 1 0).1*((a:Nat):Int)) CK Gx (Sz.le NV (by decide)) (Sz.le wu (by decide)) _ rfl) ?_
     rintro e BU ⟨ww,rfl,Gy,iD⟩
     have jD:=Ext.below fQ iD
     refine ⟨_,rfl,jD,?_⟩
     have ZB:Sz ((((Nat.gcd a b):Nat):Int)-((cf (quo a b) 1 0).1*((a:Nat):Int))) 181:=Sz.sub NV wu (by decide) (by decide)
     refine Pl.aj ?_
     have LH:=Ib.ext i_8 (Ext.below dU (Ext.below gW (Ext.below gy iD)))
     exact Pl.bN [(1,.slice Jd (limbs b).length Je),(4,.slice none 0 0),(5,.pointer (some ⟨N1,0,none⟩)),(6,.pointer (some ⟨N2,0,none⟩)),(7,lH),(8,.pointer (some ⟨N7,0,none⟩)),(9,.pointer (some ⟨N8,0,none⟩)),(30,ww)] (Pl.aa rfl (Pl.aa rfl (Pl.aa rfl (Pl.aa rfl (Pl.aa rfl (Pl.aa rfl (Pl.aa rfl (Pl.aa rfl Pl.aI)))))))) (hK _ _ ⟨N8,ww,rfl,(Ext.below dV (Ext.below dP (Ext.below dU (Ext.below gW (Ext.below gy iD))))),(Nat.le_trans (Below.size dV) GG),LH,Gy⟩)
 rintro _ anc ⟨aib,VX,rfl,yx,qp,GH,tH⟩
 have JX:=yx
 have rR:Sz (((Nat.gcd a b):Nat):Int) 90:=Sn.sz Er
 have tF:Sz ((a:Nat):Int) 90:=Sn.sz hla
 have iE:Sz ((cf (quo a b) 1 0).1*((a:Nat):Int)) 180:=Sz.mul jJ tF (by decide)
 have qo:Sz ((((Nat.gcd a b):Nat):Int)-((cf (quo a b) 1 0).1*((a:Nat):Int))) 181:=Sz.sub rR iE (by decide) (by decide)
 refine Pl.aM [(false,8,255)] 511 0 Pl.aB (by kernel_rfl) (by kernel_rfl) (by kernel_rfl) ?_
 obtain ⟨VY,VZ,V3,V4,rfl⟩:=Zn.sh tH
 refine lG rfl rfl rfl rfl rfl rfl GH (fun _ T=>T _ JX (Nat.le_trans (Below.size (Ext.refl w5)) qp)) ?_
 intro yV GI QV aic ZE
 have jf:=GI _ yx (Nat.le_trans (Below.size (Ext.refl w5)) qp)
 have ane:=GI _ JX (Nat.le_trans (Below.size (Ext.refl w5)) qp)
 have iL:=QV _ _ tH
 refine Pl.aj ?_
 refine Pl.uT (by kernel_rfl) ?_
 refine Pl.ay ?_
 refine Pl.j6 (S:=fun X=>Ext yV X) fo (Ext.drew (Ext.refl _)) ?_
 generalize yV.drew=as6
 intro jT
 have wy:=jT
 refine Pl.oN 2 255 (fun l' w'=>∃ (QW:Nat) (ZF:Value),l'=[(4,.slice none 0 0),(5,.pointer (some ⟨N1,0,none⟩)),(6,.pointer (some ⟨N2,0,none⟩)),(7,lH),(8,.pointer (some ⟨N7,0,none⟩)),(10,.pointer (some ⟨QW,0,none⟩)),(36,ZF),(37,(.bool true))]∧Ext yV w'∧yV.heap.size≤QW∧Ib w' QW false (.slice none 0 0)∧Zn w' ZF ((cf (quo a b) 0 1).1)) ?_ ?_
 rotate_left
 · intro hK
   refine Pl.aM [(true,0,0),(true,1,1)] 3 8 Pl.aB (by kernel_rfl) (by kernel_rfl) (by kernel_rfl) ?_
   refine Pl.aX wy rfl rfl rfl rfl rfl (fun X hX=>Ib.load (Ib.ext ZE hX)) ?_
   refine Pl.aA wy rfl rfl rfl rfl rfl ?_
   refine Pl.aj ?_
   refine Pl.bS [2,7] 7 (by kernel_rfl) (by kernel_rfl) (by kernel_rfl) (Pl.aC ?_ (Pl.aC ?_ Pl.aR))
   · have GJ:=Un.below yT (Ext.below hB3 (Ext.below dJ (Ext.below jf jT)))
     refine Pl.az rfl rfl rfl rfl rfl jm ?_
     refine Calls.mono (eH _ _ b GJ) ?_
     rintro e ad9 ⟨anf,rfl,NW,iw⟩
     have nG:=Ext.below wy iw
     refine ⟨_,rfl,nG,?_⟩
     have GK:Sz ((b:Nat):Int) 90:=Sn.sz hlb
     refine Pl.aj ?_
     refine Pl.bS [3,7] 6 (by kernel_rfl) (by kernel_rfl) (by kernel_rfl) (Pl.aC ?_ (Pl.aC ?_ Pl.aR))
     · have qw:=Zn.below iL (Ext.below jT iw)
       refine Pl.az rfl rfl rfl rfl rfl QR ?_
       refine Calls.mono (jl _ _ _ ((((Nat.gcd a b):Nat):Int)-((cf (quo a b) 1 0).1*((a:Nat):Int))) ((b:Nat):Int) qw NW (Sz.le qo (by decide)) (Sz.le GK (by decide)) (by omega) (by rw [ku];exact Int.mul_emod_left _ _) (cf (quo a b) 0 1).1 (by rw [ku];exact Int.mul_ediv_cancel _ (by omega))) ?_
       rintro e NY ⟨NZ,rfl,ZG,gB⟩
       have iM:=Ext.below nG gB
       refine ⟨_,rfl,iM,?_⟩
       have ZH:Sz (cf (quo a b) 0 1).1 90:=rQ hla
       refine Pl.aj ?_
       refine Pl.aM [(true,4,15),(true,5,31),(true,6,63),(false,7,127)] 255 2 Pl.aB (by kernel_rfl) (by kernel_rfl) (by kernel_rfl) ?_
       refine Pl.aA iM rfl rfl rfl rfl rfl ?_
       refine Pl.aL iM rfl rfl rfl rfl rfl rfl ?_
       refine Pl.aL iM rfl rfl rfl rfl rfl rfl ?_
       refine bW rfl rfl rfl rfl (fun _ k=>Ext.below iM k) ?_
       intro N72 ZI kP ZJ aid
       have lU:=Ext.below iM kP
       refine Pl.aj ?_
       have yX:=Zn.below ZG kP
       exact Pl.bN [(4,.slice none 0 0),(5,.pointer (some ⟨N1,0,none⟩)),(6,.pointer (some ⟨N2,0,none⟩)),(7,lH),(8,.pointer (some ⟨N7,0,none⟩)),(10,.pointer (some ⟨N72,0,none⟩)),(36,NZ),(37,(.bool true))] (Pl.aa rfl (Pl.aa rfl (Pl.aa rfl (Pl.aa rfl (Pl.aa rfl (Pl.aa rfl (Pl.aa rfl (Pl.aa rfl Pl.aI)))))))) (hK _ _ ⟨N72,NZ,rfl,(Ext.below jT (Ext.below iw (Ext.below gB kP))),(Nat.le_trans (Below.size (Ext.below jT (Ext.below iw gB))) ZJ),aid,yX⟩)
     · refine bW rfl rfl rfl rfl (fun _ k=>Ext.below nG k) ?_
       intro N70 NY gB ZK aie
       have iM:=Ext.below nG gB
       refine Pl.aj ?_
       refine Pl.aM [(false,3,135),(true,4,143),(true,5,159),(true,6,191)] 255 2 Pl.aB (by kernel_rfl) (by kernel_rfl) (by kernel_rfl) ?_
       have iN:=Zn.below iL (Ext.below jT (Ext.below iw gB))
       have yY:=Zn.below NW gB
       refine Pl.az rfl rfl rfl rfl rfl QR ?_
       refine Calls.mono (jl _ _ _ ((((Nat.gcd a b):Nat):Int)-((cf (quo a b) 1 0).1*((a:Nat):Int))) ((b:Nat):Int) iN yY (Sz.le qo (by decide)) (Sz.le GK (by decide)) (by omega) (by rw [ku];exact Int.mul_emod_left _ _) (cf (quo a b) 0 1).1 (by rw [ku];exact Int.mul_ediv_cancel _ (by omega))) ?_
       rintro e ZI ⟨Oa,rfl,ZL,kP⟩
       have lU:=Ext.below iM kP
       refine ⟨_,rfl,lU,?_⟩
       have ani:Sz (cf (quo a b) 0 1).1 90:=rQ hla
       refine Pl.aA lU rfl rfl rfl rfl rfl ?_
       refine Pl.aL lU rfl rfl rfl rfl rfl rfl ?_
       refine Pl.aL lU rfl rfl rfl rfl rfl rfl ?_
       refine Pl.aj ?_
       have CL:=Ib.ext aie kP
       exact Pl.bN [(4,.slice none 0 0),(5,.pointer (some ⟨N1,0,none⟩)),(6,.pointer (some ⟨N2,0,none⟩)),(7,lH),(8,.pointer (some ⟨N7,0,none⟩)),(10,.pointer (some ⟨N70,0,none⟩)),(36,Oa),(37,(.bool true))] (Pl.aa rfl (Pl.aa rfl (Pl.aa rfl (Pl.aa rfl (Pl.aa rfl (Pl.aa rfl (Pl.aa rfl (Pl.aa rfl Pl.aI)))))))) (hK _ _ ⟨N70,Oa,rfl,(Ext.below jT (Ext.below iw (Ext.below gB kP))),(Nat.le_trans (Below.size (Ext.below jT iw)) ZK),CL,ZL⟩)
   · refine bW rfl rfl rfl rfl (fun _ k=>Ext.below wy k) ?_
     intro N68 ad9 iw ZM aif
     have nG:=Ext.below wy iw
     refine Pl.aj ?_
     refine Pl.aM [(false,2,131),(false,3,135),(true,4,143),(true,5,159),(true,6,191)] 255 2 Pl.aB (by kernel_rfl) (by kernel_rfl) (by kernel_rfl) ?_
     have GL:=Un.below yT (Ext.below hB3 (Ext.below dJ (Ext.below jf (Ext.below jT iw))))
     refine Pl.az rfl rfl rfl rfl rfl jm ?_
     refine Calls.mono (eH _ _ b GL) ?_
     rintro e NY ⟨ank,rfl,ZN,gB⟩
     have iM:=Ext.below nG gB
     refine ⟨_,rfl,iM,?_⟩
     have ZO:Sz ((b:Nat):Int) 90:=Sn.sz hlb
     have iN:=Zn.below iL (Ext.below jT (Ext.below iw gB))
     refine Pl.az rfl rfl rfl rfl rfl QR ?_
     refine Calls.mono (jl _ _ _ ((((Nat.gcd a b):Nat):Int)-((cf (quo a b) 1 0).1*((a:Nat):Int))) ((b:Nat):Int) iN ZN (Sz.le qo (by decide)) (Sz.le ZO (by decide)) (by omega) (by rw [ku];exact Int.mul_emod_left _ _) (cf (quo a b) 0 1).1 (by rw [ku];exact Int.mul_ediv_cancel _ (by omega))) ?_
     rintro e ZI ⟨Ob,rfl,ZP,kP⟩
     have lU:=Ext.below iM kP
     refine ⟨_,rfl,lU,?_⟩
     have anl:Sz (cf (quo a b) 0 1).1 90:=rQ hla
     refine Pl.aA lU rfl rfl rfl rfl rfl ?_
     refine Pl.aL lU rfl rfl rfl rfl rfl rfl ?_
     refine Pl.aL lU rfl rfl rfl rfl rfl rfl ?_
     refine Pl.aj ?_
     have CO:=Ib.ext aif (Ext.below gB kP)
     exact Pl.bN [(4,.slice none 0 0),(5,.pointer (some ⟨N1,0,none⟩)),(6,.pointer (some ⟨N2,0,none⟩)),(7,lH),(8,.pointer (some ⟨N7,0,none⟩)),(10,.pointer (some ⟨N68,0,none⟩)),(36,Ob),(37,(.bool true))] (Pl.aa rfl (Pl.aa rfl (Pl.aa rfl (Pl.aa rfl (Pl.aa rfl (Pl.aa rfl (Pl.aa rfl (Pl.aa rfl Pl.aI)))))))) (hK _ _ ⟨N68,Ob,rfl,(Ext.below jT (Ext.below iw (Ext.below gB kP))),(Nat.le_trans (Below.size jT) ZM),CO,ZP⟩)
 rintro _ as7 ⟨uF,V5,rfl,Oc,eY,CP,tJ⟩
 have Od:=Oc
 have GK:Sz ((b:Nat):Int) 90:=Sn.sz hlb
 have ZH:Sz (cf (quo a b) 0 1).1 90:=rQ hla
 refine Pl.aM [(false,8,255),(true,9,511)] 1023 0 Pl.aB (by kernel_rfl) (by kernel_rfl) (by kernel_rfl) ?_
 obtain ⟨nS,nT,nU,nV,rfl⟩:=Zn.sh tJ
 refine lG rfl rfl rfl rfl rfl rfl CP (fun _ T=>T _ Od (Nat.le_trans (Below.size (Ext.refl yV)) eY)) ?_
 intro V6 GM QX aih Oe
 have lV:=GM _ Oc (Nat.le_trans (Below.size (Ext.refl yV)) eY)
 have GN:=GM _ Od (Nat.le_trans (Below.size (Ext.refl yV)) eY)
 have qx:=QX _ _ tJ
 refine Pl.aF GN rfl rfl rfl rfl rfl ?_
 refine Pl.aj ?_
 refine Pl.uT (by kernel_rfl) ?_
 refine Pl.ay ?_
 have wz:=Ib.ext I_5 (Ext.below jf lV)
 refine Pl.iJ (S:=fun X=>Ib X N7 sZ (.slice tq tu tC)∧Ib X uF nS (.slice nT nU nV)) [(true,0,0),(true,1,1),(true,2,3),(true,3,7),(false,4,15),(false,5,31)] fo Pl.aB (by kernel_rfl) ⟨Ib.ext wz (Ext.drew (Ext.refl _)),Ib.ext Oe (Ext.drew (Ext.refl _))⟩ ?_
 have jE:=Ext.drew (Ext.refl V6)
 generalize V6.drew=aii at *
 intro kQ
 refine Pl.aA kQ rfl rfl rfl rfl rfl ?_
 refine Pl.aX kQ rfl rfl rfl rfl rfl (fun X hX=>Ib.load hX.1) ?_
 refine Pl.aX kQ rfl rfl rfl rfl rfl (fun X hX=>Ib.load hX.2) ?_
 refine Pl.aF kQ rfl rfl rfl rfl rfl ?_
 have GQ:=Ib.ext i_1 (Ext.below hB2 (Ext.below hB3 (Ext.below dJ (Ext.below jf (Ext.below lV jE)))))
 have GR:=Ib.ext wz jE
 have yZ:=Ib.ext Oe jE
 have GU:=Ib.ext i_2 (Ext.below hB3 (Ext.below dJ (Ext.below jf (Ext.below lV jE))))
 have CQ:=Zn.below nC (Ext.below dJ (Ext.below jf (Ext.below lV jE)))
 have qy:=Zn.below qx jE
 have CR:=Un.below uB (Ext.below dJ (Ext.below jf (Ext.below lV jE)))
 have anm:=kQ
 refine Gg rfl rfl rfl rfl rfl rfl GQ (fun Y T3=>⟨T3 _ _ _ (Nat.ne_of_gt (Nat.lt_of_lt_of_le (Ib.ext i_1 (Ext.below hB2 hB3)).1 uD)) kQ.1,T3 _ _ _ (Nat.ne_of_gt (Nat.lt_of_lt_of_le (Ib.ext i_1 (Ext.below hB2 (Ext.below hB3 (Ext.below dJ jf)))).1 eY)) kQ.2⟩) ?_
 intro V7 QY y7 qA ZQ
 have Bc:=QY _ (Ext.below hB1 (Ext.below hB2 (Ext.below hB3 (Ext.below dJ (Ext.below jf (Ext.below lV jE)))))) (Nat.le_trans (Below.size (Ext.refl w)) uU)
 have rF:=(⟨qA _ _ _ (Nat.ne_of_gt (Nat.lt_of_lt_of_le (Ib.ext i_1 (Ext.below hB2 hB3)).1 uD)) kQ.1,qA _ _ _ (Nat.ne_of_gt (Nat.lt_of_lt_of_le (Ib.ext i_1 (Ext.below hB2 (Ext.below hB3 (Ext.below dJ jf)))).1 eY)) kQ.2⟩:Ib V7 N7 sZ (.slice tq tu tC)∧Ib V7 uF nS (.slice nT nU nV))
 have GV:=qA _ _ _ (Nat.ne_of_gt (Nat.lt_of_lt_of_le (Ib.ext i_1 (Ext.refl w1)).1 uV)) GU
 have tK:=y7 _ _ CQ
 have GX:=qA _ _ _ (Nat.ne_of_gt (Nat.lt_of_lt_of_le (Ib.ext i_1 (Ext.below hB2 hB3)).1 uD)) GR
 have qB:=y7 _ _ qy
 have y8:=qA _ _ _ (Nat.ne_of_gt (Nat.lt_of_lt_of_le (Ib.ext i_1 (Ext.below hB2 (Ext.below hB3 (Ext.below dJ jf)))).1 eY)) yZ
 have CS:=T2.un y7 CR
 have ann:=rF
 refine Gg rfl rfl rfl rfl rfl rfl GV (fun Y T3=>⟨T3 _ _ _ (Nat.ne_of_gt (Nat.lt_of_lt_of_le (Ib.ext i_2 hB3).1 uD)) rF.1,T3 _ _ _ (Nat.ne_of_gt (Nat.lt_of_lt_of_le (Ib.ext i_2 (Ext.below hB3 (Ext.below dJ jf))).1 eY)) rF.2⟩) ?_
 intro V8 QZ y9 qC ZR
 have D9:=QZ _ Bc (Nat.le_trans (Below.size hB1) uV)
 have GY:=(⟨qC _ _ _ (Nat.ne_of_gt (Nat.lt_of_lt_of_le (Ib.ext i_2 hB3).1 uD)) rF.1,qC _ _ _ (Nat.ne_of_gt (Nat.lt_of_lt_of_le (Ib.ext i_2 (Ext.below hB3 (Ext.below dJ jf))).1 eY)) rF.2⟩:Ib V8 N7 sZ (.slice tq tu tC)∧Ib V8 uF nS (.slice nT nU nV))
 have CU:=y9 _ _ tK
 have ze:=qC _ _ _ (Nat.ne_of_lt (Nat.lt_of_lt_of_le (Ib.ext i_1 (Ext.refl w1)).1 uV)) ZQ
 have ZT:=qC _ _ _ (Nat.ne_of_gt (Nat.lt_of_lt_of_le (Ib.ext i_2 hB3).1 uD)) GX
 have qD:=y9 _ _ qB
 have Q0:=qC _ _ _ (Nat.ne_of_gt (Nat.lt_of_lt_of_le (Ib.ext i_2 (Ext.below hB3 (Ext.below dJ jf))).1 eY)) y8
 have CV:=T2.un y9 CS
 refine Pl.aj ?_
 refine EQ rfl rfl rfl rfl ze ZR ?_
 exact ⟨_,_,_,rfl,CV,CU,qD,D9⟩
end Go.Proofs.YtfhcmggpojhegaaGreatDoor
namespace Go.Proofs.YtfhcmggpojhegaaGreatDoor
open Go.RowKit
set_option linter.all false
set_option maxRecDepth 100000
set_option maxHeartbeats 8000000
namespace EGH
set_option linter.all false
set_option maxRecDepth 100000
set_option maxHeartbeats 8000000
theorem jm (u:Array Value) (X:World):(callFunc 35 u).run Tryz.prog X = .ok (.enter 35 u) X:=Pl.enters Tryz.func35 (by kernel_rfl) rfl u X
end EGH
open EGH
end Go.Proofs.YtfhcmggpojhegaaGreatDoor
namespace Go.Proofs.YtfhcmggpojhegaaGreatDoor
open Go.RowKit
set_option linter.all false
set_option maxRecDepth 100000
set_option maxHeartbeats 8000000
section
variable {L:List Oper} {K:List (Nat × Value)→World→Prop} {i m:Nat} {o:Oper} {x y:Operand} {r:List (Bool × Nat × Nat)} {l:List (Nat × Value)} {w:World}
end
namespace Tu
set_option linter.all false
set_option maxRecDepth 100000
set_option maxHeartbeats 8000000
theorem jm (u:Array Value) (X:World):(callFunc 35 u).run Tryz.prog X = .ok (.enter 35 u) X:=Pl.enters Tryz.func35 (by kernel_rfl) rfl u X
end Tu
open Tu
end Go.Proofs.YtfhcmggpojhegaaGreatDoor
namespace Go.Proofs.YtfhcmggpojhegaaGreatDoor
open Go.RowKit
set_option linter.all false
set_option maxRecDepth 100000
set_option maxHeartbeats 8000000
theorem aij (w:World) (b:Bool) (v:Value) (xs:List Nat) (hu:U w v xs) (hlen:xs.length≤1000000000) (n:Nat) (hn:val xs=n) (z:Int) (hz:sg b n=z) :
  Calls Tryz.prog 88 #[.bool b,v] w fun e w'=>∃ u,e = .returned u∧Zn w' u z∧Ext w w':=by
 have hM:=Lib.hid (fun W h=>ad3 W v xs h hlen n hn)
 have hE0:=(Ext.refl w).alloc (.cells #[.bool false,.slice none 0 0] 48)
 have hI0:=Ib.new w false (.slice none 0 0) 48
 have hu0:=hu.below hE0
 have hza:z.natAbs=n:=by rw [← hz,Qh]
 have hzn:decide (z<0)=(b&&decide (0<n)):=by rw [← hz,Yi]
 obtain ⟨L,hL⟩:∃ L,(limbs n).length=L:=⟨_,rfl⟩
 have hc:=nR n
 rw [hL] at hc
 have HL:=Lib.hid hL
 have HZ:=Lib.hid (And.intro hza hzn)
 obtain ⟨A0,c0,rfl,-⟩:=id hu
 obtain ⟨l0,hl0⟩:∃ l,xs.length=l:=⟨_,rfl⟩
 rw [hl0] at hM hu0 ⊢
 clear hl0
 clear hz hn hL hza hzn
 rcases hc with ⟨h1,rfl⟩ | ⟨h1,h2⟩
 · subst h1
   cases b
   all_goals (
    go_enter Tryz.func88,Tryz.ntmps88
    go_wp2_with (go_at_call 46;refine (hM.out _ hu0).mono ?_;rintro e w2 ⟨u,rfl,hu2,hE2⟩;obtain ⟨A,c,rfl,hc⟩:=Un.sh hu2;rw [HL.out] at hu2 ⊢;clear hc;have hI2:=hI0.ext hE2;obtain ⟨i0,i1,i2,i3,i4⟩:=id hI2)
    (try simp only [Exit.inBlock,Exit.then])
    refine bodyPost_ret (v:=.agg #[.bool false,.slice A 0 c]) (show (results _ _).run _ _=_ from ?_) rfl ⟨_,rfl,Zn.mk' (Un.dA hu2 hI2 (aP _ _ _) _ _) HL.out HZ.out.1 HZ.out.2,(hE0.below hE2).dA (Nat.le_refl _) _ _⟩
    simp only [results]
    go_simp)
 · have h3:(0:Int)<(L:Int):=by omega
   have hb0:Hid (decide (0<n)=true):=decide_eq_true (by omega)
   cases b
   case' false=>have HS:Hid (decide (z<0)=false):=by show _=_;rw [HZ.out.2];rfl
   case' true=>have HS:Hid (decide (z<0)=true):=by show _=_;rw [HZ.out.2,hb0.out];rfl
   all_goals (
    go_enter Tryz.func88,Tryz.ntmps88
    go_wp2_with (go_at_call 46;refine (hM.out _ hu0).mono ?_;rintro e w2 ⟨u,rfl,hu2,hE2⟩;obtain ⟨A,c,rfl,hc⟩:=Un.sh hu2;rw [HL.out] at hu2 ⊢;clear hc;have hI2:=hI0.ext hE2;obtain ⟨i0,i1,i2,i3,i4⟩:=id hI2)
    (try simp only [Exit.inBlock,Exit.then])
    refine bodyPost_ret (v:=.agg #[.bool _,.slice A L c]) (show (results _ _).run _ _=_ from ?_) rfl ⟨_,rfl,Zn.mk' (Un.dA hu2 hI2 (aP _ _ _) _ _) HL.out HZ.out.1 HS.out,(hE0.below hE2).dA (Nat.le_refl _) _ _⟩
    simp only [results]
    go_simp)
theorem ano (w:World) (va vb:Value) (a b:Int) (ha:Zn w va a) (hb:Zn w vb b) (hl:(limbs a.natAbs).length≤1000000) (hl2:(limbs b.natAbs).length≤1000000) (k:Int) (hk:dY a b=k) :
  Calls Tryz.prog 95 #[va,vb] w fun e w'=>e = .returned (.int .i64 k)∧Ext w w':=by
 obtain ⟨p,A,L,c,n,rfl,hu,hL,hz,-,hza,hzn⟩:=ha.open
 obtain ⟨q,B,K,d,m,rfl,hv,hK,hz2,-,iF,jV⟩:=hb.open
 rw [hza] at hl
 rw [iF] at hl2
 have hE0:=((Ext.refl w).alloc (.cells #[.bool p,.slice A L c] 48)).alloc (.cells #[.bool q,.slice B K d] 48)
 have hu0:=hu.below hE0
 have hv0:=hv.below hE0
 have Og:decide (a<0)=p:=hzn
 have Oh:decide (b<0)=q:=jV
 cases p<;>cases q
 case' false.false =>
  have hC:=Lib.hid (Zg _ (.slice A L c) (.slice B K d) n m hu0 hv0 (by omega) (by omega) k (by
   have h1:=of_decide_eq_false Og
   have h2:=of_decide_eq_false Oh
   rw [← hk,show a=(n:Int) by omega,show b=(m:Int) by omega]))
 case' true.true =>
  have hC:=Lib.hid (Zg _ (.slice B K d) (.slice A L c) m n hv0 hu0 (by omega) (by omega) k (by
   have h1:=of_decide_eq_true Og
   have h2:=of_decide_eq_true Oh
   rw [← hk,show a = -(n:Int) by omega,show b = -(m:Int) by omega]
   unfold dY;(repeat' split)<;>omega))
 case' true.false =>
  have hkk:k = -1:=by
   have h1:=of_decide_eq_true Og
   have h2:=of_decide_eq_false Oh
   rw [← hk];exact if_pos (by omega)
  subst hkk
 case' false.true =>
  have hkk:k=1:=by
   have h1:=of_decide_eq_false Og
   have h2:=of_decide_eq_true Oh
   rw [← hk];unfold dY;rw [if_neg (by omega),if_pos (by omega)]
  subst hkk
 all_goals (
  clear hl hl2 hza hzn iF jV hz hz2 hL hK ha hb hu hv hk Og Oh hu0 hv0
  go_enter Tryz.func95,Tryz.ntmps95
  go_wp2_with (go_at_call 149;refine hC.out.mono ?_;rintro e w2 ⟨rfl,hE2⟩)
  go_ret
  exact ⟨rfl,by first | exact hE0.below hE2 | exact hE0⟩)
theorem Oi (a b:Int):dY a b=0↔a=b:=by unfold dY;(repeat' split)<;>omega
theorem aik (w:World) (va vb:Value) (a b:Int) (ha:Zn w va a) (hb:Zn w vb b) (hl:(limbs a.natAbs).length≤1000000) (hl2:(limbs b.natAbs).length≤1000000) (r:Bool) (hr:decide (a=b)=r) :
  Calls Tryz.prog 39 #[va,vb] w fun e w'=>e = .returned (.bool r)∧Ext w w':=by
 have ha':=ha
 have hb':=hb
 obtain ⟨p,A,L,c,n,rfl,-,-,-,-,-,hzn⟩:=ha.open
 obtain ⟨q,B,K,d,m,rfl,-,-,-,-,-,jV⟩:=hb.open
 have hE0:=((Ext.refl w).alloc (.cells #[.bool p,.slice A L c] 48)).alloc (.cells #[.bool q,.slice B K d] 48)
 have lC:=(Ib.new w p (.slice A L c) 48).ext ((Ext.refl _).alloc (.cells #[.bool q,.slice B K d] 48))
 have nL:=Ib.new2 w (.cells #[.bool p,.slice A L c] 48) q (.slice B K d) 48
 obtain ⟨k,hk⟩:∃ k,dY a b=k:=⟨_,rfl⟩
 have hC:=Lib.hid (ano _ _ _ a b (ha'.below hE0) (hb'.below hE0) hl hl2 k hk)
 by_cases hab:a=b
 · rw [decide_eq_true hab] at hr
   subst hr
   have hk0:k=0:=by rw [← hk];exact (Oi a b).2 hab
   have hpq:p=q:=by rw [← hzn,← jV,hab]
   subst hk0
   subst hpq
   clear hk hab hzn jV hl hl2 ha hb ha' hb'
   cases p
   all_goals (
    go_enter Tryz.func39,Tryz.ntmps39
    go_wp2_with (go_at_call 95;refine hC.out.mono ?_;rintro e w2 ⟨rfl,hE2⟩;obtain ⟨p0,p1,p2,p3,p4⟩:=lC.ext hE2;obtain ⟨q0,q1,q2,q3,q4⟩:=nL.ext hE2)
    go_ret
    exact ⟨by first | rfl | simp,hE0.below hE2⟩)
 · rw [decide_eq_false hab] at hr
   subst hr
   have hk0:(k==0)=false:=by
    rw [beq_eq_false_iff_ne]
    intro h
    exact hab ((Oi a b).1 (hk.trans h))
   clear hk hab hzn jV hl hl2 ha hb ha' hb'
   go_enter Tryz.func39,Tryz.ntmps39
   go_wp2_with (go_at_call 95;refine hC.out.mono ?_;rintro e w2 ⟨rfl,hE2⟩;obtain ⟨p0,p1,p2,p3,p4⟩:=lC.ext hE2;obtain ⟨q0,q1,q2,q3,q4⟩:=nL.ext hE2)
   go_ret
   exact ⟨by first | rfl | simp,hE0.below hE2⟩
end Go.Proofs.YtfhcmggpojhegaaGreatDoor
namespace Go.Proofs.YtfhcmggpojhegaaGreatDoor
open Go.RowKit
set_option linter.all false
set_option maxRecDepth 100000
set_option maxHeartbeats 8000000
theorem ail (w:World) (va:Value) (b:Bool) (xs:List Nat) (ha:Ri w va b xs) (k:Int) (hk0:0≤k) (hk1:k≤1000000) (n:Nat) (hn:lF xs k.toNat=n) (hl:(limbs n).length≤1000000) (y:Int) (hy:sg b n=y) :
  Calls Tryz.prog 32 #[va,.int .i64 k] w fun e w'=>∃ u,e = .returned u∧Zn w' u y∧Ext w w':=by
 obtain ⟨A,c,rfl,hu⟩:=ha
 obtain ⟨L,hL⟩:∃ L,xs.length=L:=⟨_,rfl⟩
 have hMd:=Lib.hid (fun W h=>nA W (.slice A xs.length c) xs k h hk0 (by omega) n hn)
 rw [hL] at hMd hu ⊢
 have hE0:=(((Ext.refl w).alloc (.cells #[.bool b,.slice A L c] 48)).alloc (.cells #[.bool false,.slice none 0 0] 48)).drew
 have hI0:=(Ib.new2 w (.cells #[.bool b,.slice A L c] 48) false (.slice none 0 0) 48).ext (Ext.refl _).drew
 have lC:=(Ib.new w b (.slice A L c) 48).ext (((Ext.refl _).alloc (.cells #[.bool false,.slice none 0 0] 48)).drew)
 have hS0:(w.heap.size+1<((w.alloc (.cells #[.bool b,.slice A L c] 48)).alloc (.cells #[.bool false,.slice none 0 0] 48)).drew.heap.size∧((w.alloc (.cells #[.bool b,.slice A L c] 48)).alloc (.cells #[.bool false,.slice none 0 0] 48)).drew.cell? ⟨w.heap.size,0,none⟩=some (.bool b)∧((w.alloc (.cells #[.bool b,.slice A L c] 48)).alloc (.cells #[.bool false,.slice none 0 0] 48)).drew.cell? ⟨w.heap.size,1,none⟩=some (.slice A L c))∧Ext w ((w.alloc (.cells #[.bool b,.slice A L c] 48)).alloc (.cells #[.bool false,.slice none 0 0] 48)).drew:=⟨⟨by simp,lC.2.1,lC.2.2.1⟩,hE0⟩
 have hu0:=hu.below hE0
 have hM1:=Lib.hid (fun W v (h:Un W v n)=>aij W b v (limbs n) h (by omega) n (aO _) y hy)
 clear lC hy hn hL hl hu hk0 hk1
 go_enter Tryz.func32,Tryz.ntmps32
 go_wp2
 go_region_held3 (fun X=>(w.heap.size+1<X.heap.size∧X.cell? ⟨w.heap.size,0,none⟩=some (.bool b)∧X.cell? ⟨w.heap.size,1,none⟩=some (.slice A L c))∧Ext w X)
  (first
   | assumption
   | with_reducible exact hS0
   | with_reducible exact ahP (by assumption)
   | exact ahO (by assumption) (by assumption))
  (first
   | (go_at_call 9;((with_reducible refine (hMd.out _ hu0).mono ?_);rintro e w2 ⟨u,rfl,hu2,hE2⟩;obtain ⟨A2,c2,rfl,-⟩:=Un.sh hu2))
   | (go_at_call 88;((with_reducible refine (hM1.out _ _ hu2).mono ?_);rintro e w3 ⟨u,rfl,hz3,bJ⟩;obtain ⟨b3,A3,L3,c3,rfl⟩:=hz3.sh;have kH:=(hI0.ext hE2).ext bJ;obtain ⟨i0,i1,i2,i3,i4⟩:=id kH)))
 clear kH hMd hM1
 go_wp2
 (try simp only [Exit.inBlock,Exit.then])
 refine bodyPost_ret (v:=.agg #[.bool b3,.slice A3 L3 c3]) (show (results _ _).run _ _=_ from ?_) rfl ⟨_,rfl,hz3.dA ((hI0.ext hE2).ext bJ) (aP _ _ _) _ _,((hE0.below hE2).below bJ).dA (by omega) _ _⟩
 simp only [results]
 go_simp
end Go.Proofs.YtfhcmggpojhegaaGreatDoor
namespace Go.Proofs.YtfhcmggpojhegaaGreatDoor
open Go.RowKit
set_option linter.all false
set_option maxRecDepth 100000
set_option maxHeartbeats 8000000
theorem ad' (w:World) (va:Value) (b:Bool) (xs:List Nat) (ha:Ri w va b xs) (k:Nat) (z:Int) (hz:z=(k:Int)) (hk1:k≤1000000) (y:Int) (hy:sg b (lF xs k)=y) :
  Calls Tryz.prog 32 #[va,.int .i64 z] w fun e w'=>∃ u,e = .returned u∧Zn w' u y∧Ext w w':=by
 subst hz
 obtain ⟨A,c,e,hu⟩:=id ha
 exact ail w va b xs ha (k:Int) (by omega) (by omega) (lF xs k) rfl (Nat.le_trans (jS xs k hu.lim) hk1) y hy
end Go.Proofs.YtfhcmggpojhegaaGreatDoor
namespace Go.Proofs.YtfhcmggpojhegaaGreatDoor
open Go.RowKit
set_option linter.all false
set_option maxRecDepth 100000
set_option maxHeartbeats 8000000
theorem iU {n:Nat}:(limbs n).length=0↔n=0:=⟨fun h=>oV.1 (List.eq_nil_of_length_eq_zero h),fun h=>by subst h;rw [bf];rfl⟩
theorem aea (w:World) (va vb:Value) (a b:Nat) (ha:Un w va a) (hb:Un w vb b) (la:Sn a 90) (lb:Sn b 90) :
  Calls Tryz.prog 33 #[va,vb] w fun e w'=>∃ g u v,e = .returned (.tuple #[g,u,v])∧Un w' g (Nat.gcd a b)∧Zn w' u (cf (quo a b) 1 0).1∧Zn w' v (cf (quo a b) 0 1).1∧Ext w w':=by
 by_cases h:b=0
 · exact NT w va vb a b ha hb la lb h
 · exact wh w va vb a b ha hb la lb h
theorem aim {a b:Nat} (la:Sn a 12) (lb:Sn b 12):Sz (cf (quo a b) 0 1).1 104:=by
 by_cases h:b=0
 · subst h;rw [lN];exact Sz.zero
 · have e:=ku a b
   have h1:Sz ((cf (quo a b) 0 1).1*(b:Int)) 103:=by
    rw [← e]
    exact Sz.sub (K:=90) (J:=102) ((show Sn (Nat.gcd a b) 12 from la.gcd lb).le (by decide)).sz ((JV (lb.le (by decide))).mul la.sz (by decide)) (by decide) (by decide)
   refine Sz.of (n:=((cf (quo a b) 0 1).1*(b:Int)).natAbs) ?_ (h1.le (by decide))
   rw [Int.natAbs_mul,Int.natAbs_natCast]
   exact Nat.le_mul_of_pos_right _ (Nat.pos_of_ne_zero h)
/-! The head. -/
/-! Whole numbers. -/
theorem jW (w:World) (v:Value) (n:Nat) (h:Un w v n) :
 Calls Tryz.prog 35 #[.bool false,v] w fun e w'=>∃ u,e = .returned u∧Zn w' u (n:Int)∧Ext w w':=iq w false v _ h n (aO n) _ rfl
/-! Digit sums. -/
section
variable {P:Program} {L:List Oper} {S:World→Prop} {K:List (Nat × Value)→World→Prop} {kk:Bool} {i m d:Nat} {o:Oper} {x y:Operand} {r:List (Bool × Nat × Nat)} {l:List (Nat × Value)} {w:World}
end
end Go.Proofs.YtfhcmggpojhegaaGreatDoor
namespace Go.Proofs.YtfhcmggpojhegaaGreatDoor
open Go.RowKit 
set_option linter.all false
set_option maxRecDepth 100000
set_option maxHeartbeats 8000000
set_option linter.unusedVariables false in
theorem Jf (w:World) (vg vn:Value) (g:Nat) (n:Int) (hg_:Un w vg g) (hn:Zn w vn n) (lg:Sn g 12) (ln:Sz n 12) (h0:g≠0) (b:Bool) (hb:decide (n%(g:Int)=0)=b) :
  Calls Tryz.prog 36 #[vg,vn] w fun e w'=>e = .returned (.bool b)∧Pl.Ex w w':=by
 have hz0:((g:Nat):Int)≠0:=by omega
 obtain ⟨An,cn,rfl,un⟩:=id hn
 refine Pl.aZ (n:=19) (vs:=[vg,.agg #[.bool (decide (n<0)),.slice An (limbs (Int.natAbs n)).length cn]]) Tryz.func36 rfl (by kernel_rfl) (by simp) ?_
 repeat refine Pl.ay ?_
 refine Pl.ak (by kernel_rfl) ?_
 refine Pl.AR (cs:=[.bool (decide (n<0)),.slice An (limbs (Int.natAbs n)).length cn]) rfl rfl rfl rfl rfl rfl (fun Y hY=>trivial) ?_
 intro N1 w1 hE1 Uc jF
 have uU:=Pl.Cb.lt jF
 have X0:=Pl.Ex.size hE1
 refine Pl.aG trivial rfl ?_
 refine Pl.aj ?_
 repeat refine Pl.ay ?_
 refine Pl.uQ (fun l' w'=>∃ (Nr:Nat) (Ar:Option Addr) (cr:Nat),Pl.Ex w1 w'∧(Pl.Cb w' Nr 48 [.bool (decide ((n%(g:Int))<0)),.slice Ar (limbs (Int.natAbs (n%(g:Int)))).length cr])∧(Zn w' (.agg #[.bool (decide ((n%(g:Int))<0)),.slice Ar (limbs (Int.natAbs (n%(g:Int)))).length cr]) (n%(g:Int)))∧(Un w' (.slice Ar (limbs (Int.natAbs (n%(g:Int)))).length cr) (Int.natAbs (n%(g:Int))))∧l'=[(6,.pointer (some ⟨Nr,0,none⟩))]) ?_ fun ru=>?_
 · rintro _ w2 ⟨Nr,Ar,cr,hE2,kr,zr,ur,rfl⟩
   have WY:=Pl.Ex.size hE2
   repeat refine Pl.ay ?_
   refine Pl.ak (by kernel_rfl) ?_
   refine Pl.F6 (part:=[.bool (decide ((n%(g:Int))<0)),.slice Ar (limbs (Int.natAbs (n%(g:Int)))).length cr]) kr rfl Tryz.underlying48 rfl (by kernel_rfl) trivial rfl rfl rfl rfl rfl ?_
   by_cases c3:(n%(g:Int))=0
   · refine Pl.az rfl rfl rfl rfl rfl (fun u X=>Pl.enters Tryz.func92 (by kernel_rfl) rfl u X) ?_
     refine Calls.mono (F9 _ _ (n%(g:Int)) zr _ rfl) ?_
     rintro e w3 ⟨rfl,bJ⟩
     obtain ⟨k4,qk4⟩:∃ q,Int.sign (n%(g:Int))=q:=⟨_,rfl⟩
     rw [qk4]
     have gk4:k4=0:=by rw [← qk4,c3];rfl
     have TD:=Pl.Ex.size bJ
     refine ⟨_,rfl,trivial,?_⟩
     refine Pl.bV (v:=.bool true) (fun X=>Pl.gL (by rw [gk4];rfl) X) trivial rfl rfl rfl rfl rfl rfl ?_
     refine Pl.aG trivial rfl ?_
     refine Pl.aj ?_
     repeat refine Pl.ay ?_
     exact Pl.bI rfl rfl  (⟨by rw [← hb,decide_eq_true c3],(Pl.Ex.trans hE1 (Pl.Ex.trans hE2 bJ))⟩)
   · refine Pl.az rfl rfl rfl rfl rfl (fun u X=>Pl.enters Tryz.func92 (by kernel_rfl) rfl u X) ?_
     refine Calls.mono (F9 _ _ (n%(g:Int)) zr _ rfl) ?_
     rintro e w3 ⟨rfl,bJ⟩
     obtain ⟨k4,qk4⟩:∃ q,Int.sign (n%(g:Int))=q:=⟨_,rfl⟩
     rw [qk4]
     have gk4:¬ k4=0:=by rw [← qk4];exact fun h=>c3 (Int.sign_eq_zero_iff_zero.1 h)
     have TD:=Pl.Ex.size bJ
     refine ⟨_,rfl,trivial,?_⟩
     refine Pl.bV (v:=.bool false) (fun X=>Pl.gL (by simpa using gk4) X) trivial rfl rfl rfl rfl rfl rfl ?_
     refine Pl.aG trivial rfl ?_
     refine Pl.aj ?_
     repeat refine Pl.ay ?_
     exact Pl.bI rfl rfl  (⟨by rw [← hb,decide_eq_false c3],(Pl.Ex.trans hE1 (Pl.Ex.trans hE2 bJ))⟩)
 · repeat refine Pl.ay ?_
   refine Pl.j6 (S:=fun X=>Pl.Ex w1 X) fo (Pl.Ex.trans (Pl.Ex.refl _) (Pl.Ex.drew _)) ?_
   have hE2:=Pl.Ex.drew w1
   generalize w1.drew=w2 at *
   have WY:=Pl.Ex.size hE2
   intro hS2
   refine Pl.aM [(true,0,0),(true,1,1)] 3 11 Pl.aB (by kernel_rfl) (by kernel_rfl) (by kernel_rfl) ?_
   refine Pl.D6 (part:=[.bool (decide (n<0)),.slice An (limbs (Int.natAbs n)).length cn]) (fun X hX=>Pl.Cb.ex jF hX) rfl Tryz.underlying48 rfl (by kernel_rfl) hS2 rfl rfl rfl rfl rfl ?_
   refine Pl.aG hS2 rfl ?_
   refine Pl.aj ?_
   refine Pl.bS [2,8,9] 10 (by kernel_rfl) (by kernel_rfl) (by kernel_rfl) (Pl.aC ?_ (Pl.aC ?_ (Pl.aC ?_ Pl.aR)))
   · refine Pl.az rfl rfl rfl rfl rfl (fun u X=>Pl.enters Tryz.func35 (by kernel_rfl) rfl u X) ?_
     refine Calls.mono (jW _ _ g (Un.below hg_ (Pl.Ex.trans hE1 hE2))) ?_
     rintro e w3 ⟨v3,rfl,hv3,bJ⟩
     obtain ⟨A4,c5,rfl,u6⟩:=id hv3
     have TD:=Pl.Ex.size bJ
     have Cu:=Pl.Ex.trans hS2 bJ
     refine ⟨_,rfl,Cu,?_⟩
     refine Pl.aj ?_
     refine Pl.bS [3,8,9] 9 (by kernel_rfl) (by kernel_rfl) (by kernel_rfl) (Pl.aC ?_ (Pl.aC ?_ (Pl.aC ?_ Pl.aR)))
     · refine Pl.az rfl rfl rfl rfl rfl (fun u X=>Pl.enters Tryz.func84 (by kernel_rfl) rfl u X) ?_
       refine Calls.mono (jQ _ _ _ n (g:Int) (Zn.below hn (Pl.Ex.trans hE1 (Pl.Ex.trans hE2 bJ))) hv3 (Sz.le ln (by decide)) (Sz.le (Sn.sz lg) (by decide)) hz0 _ _ rfl rfl) ?_
       rintro e w4 ⟨⟨v7,v11,rfl,hv7,rO⟩,bX⟩
       obtain ⟨A8,c9,rfl,u10⟩:=id hv7
       obtain ⟨A12,c13,rfl,u14⟩:=id rO
       have TH:=Pl.Ex.size bX
       have mo:=Pl.Ex.trans Cu bX
       refine ⟨_,rfl,mo,?_⟩
       refine Pl.aj ?_
       refine Pl.aM [(true,4,15),(true,5,31),(true,6,63),(true,7,127)] 255 5 Pl.aB (by kernel_rfl) (by kernel_rfl) (by kernel_rfl) ?_
       refine Pl.aG mo rfl ?_
       refine Pl.aj ?_
       refine Pl.bS [8,9] 4 (by kernel_rfl) (by kernel_rfl) (by kernel_rfl) (Pl.aC ?_ (Pl.aC ?_ Pl.aR))
       · refine Pl.fZ (z:=.agg #[.bool false,.slice none 0 0]) (by kernel_rfl) rfl rfl rfl rfl (fun Y hY=>Pl.Ex.trans mo hY) ?_
         intro N15 w5 bE ain pG
         have ant:=Pl.Cb.lt pG
         have Mw:=Pl.Ex.size bE
         replace pG:Pl.Cb w5 N15 48 [.bool false,.slice none 0 0]:=pG
         have hS5:=Pl.Ex.trans mo bE
         refine Pl.aj ?_
         refine Pl.aM [(false,9,511),(false,10,1023),(false,11,2047),(true,12,4095)] 8191 0 Pl.aB (by kernel_rfl) (by kernel_rfl) (by kernel_rfl) ?_
         refine Pl.fZ (z:=.agg #[.bool false,.slice none 0 0]) (by kernel_rfl) rfl rfl rfl rfl (fun Y hY=>Pl.Ex.trans hS5 hY) ?_
         intro zZ w6 bu vG dD
         have uS:=Pl.Cb.lt dD
         have Cj:=Pl.Ex.size bu
         replace dD:Pl.Cb w6 zZ 48 [.bool false,.slice none 0 0]:=dD
         have gP:=Pl.Ex.trans hS5 bu
         refine Pl.eP (new:=[.bool (decide ((n/(g:Int))<0)),.slice A8 (limbs (Int.natAbs (n/(g:Int)))).length c9]) (Pl.Cb.ex pG bu) (by kernel_rfl) rfl (by simp [Value.oneCell']) rfl rfl rfl rfl rfl rfl (fun Y hY=>Pl.Ex.xs gP hY (by omega)) ?_
         intro w7 iy LJ
         have cB:=Pl.Ex.xs (Pl.Ex.trans bE bu) iy (by omega)
         have zS:=Pl.Xs.size iy
         have iK:=Pl.Ex.xs gP iy (by omega)
         have fK:=Pl.Cb.xs dD iy (by simp;omega)
         refine Pl.eP (new:=[.bool (decide ((n%(g:Int))<0)),.slice A12 (limbs (Int.natAbs (n%(g:Int)))).length c13]) fK (by kernel_rfl) rfl (by simp [Value.oneCell']) rfl rfl rfl rfl rfl rfl (fun Y hY=>Pl.Ex.xs iK hY (by omega)) ?_
         intro w8 fM rG
         have dL:=Pl.Ex.xs cB fM (by omega)
         have xg:=Pl.Xs.size fM
         have jk:=Pl.Ex.xs iK fM (by omega)
         have ap9:=Pl.Cb.xs LJ fM (by simp;omega)
         refine Pl.aG jk rfl ?_
         refine Pl.aj ?_
         refine Pl.uT (by kernel_rfl) ?_
         refine Pl.eF [(6,.pointer (some ⟨zZ,0,none⟩))] (Pl.aa rfl Pl.aI) ?_
         exact ru _ _ ⟨zZ,A12,c13,(Pl.Ex.trans hE2 (Pl.Ex.trans bJ (Pl.Ex.trans bX dL))),rG,(Zn.below rO dL),(Un.below u14 dL),rfl⟩
       · refine Pl.fZ (z:=.agg #[.bool false,.slice none 0 0]) (by kernel_rfl) rfl rfl rfl rfl (fun Y hY=>Pl.Ex.trans mo hY) ?_
         intro N15 w5 bE ain pG
         have ant:=Pl.Cb.lt pG
         have Mw:=Pl.Ex.size bE
         replace pG:Pl.Cb w5 N15 48 [.bool false,.slice none 0 0]:=pG
         have hS5:=Pl.Ex.trans mo bE
         refine Pl.aj ?_
         refine Pl.aM [(false,8,767),(false,10,1023),(false,11,2047),(true,12,4095)] 8191 0 Pl.aB (by kernel_rfl) (by kernel_rfl) (by kernel_rfl) ?_
         refine Pl.fZ (z:=.agg #[.bool false,.slice none 0 0]) (by kernel_rfl) rfl rfl rfl rfl (fun Y hY=>Pl.Ex.trans hS5 hY) ?_
         intro zZ w6 bu vG dD
         have uS:=Pl.Cb.lt dD
         have Cj:=Pl.Ex.size bu
         replace dD:Pl.Cb w6 zZ 48 [.bool false,.slice none 0 0]:=dD
         have gP:=Pl.Ex.trans hS5 bu
         refine Pl.eP (new:=[.bool (decide ((n/(g:Int))<0)),.slice A8 (limbs (Int.natAbs (n/(g:Int)))).length c9]) dD (by kernel_rfl) rfl (by simp [Value.oneCell']) rfl rfl rfl rfl rfl rfl (fun Y hY=>Pl.Ex.xs gP hY (by omega)) ?_
         intro w7 iy fK
         have cB:=Pl.Ex.xs bu iy (by omega)
         have zS:=Pl.Xs.size iy
         have iK:=Pl.Ex.xs gP iy (by omega)
         refine Pl.eP (new:=[.bool (decide ((n%(g:Int))<0)),.slice A12 (limbs (Int.natAbs (n%(g:Int)))).length c13]) (Pl.Cb.ex pG cB) (by kernel_rfl) rfl (by simp [Value.oneCell']) rfl rfl rfl rfl rfl rfl (fun Y hY=>Pl.Ex.xs iK hY (by omega)) ?_
         intro w8 fM LJ
         have dL:=Pl.Ex.xs (Pl.Ex.trans bE cB) fM (by omega)
         have xg:=Pl.Xs.size fM
         have jk:=Pl.Ex.xs iK fM (by omega)
         have rG:=Pl.Cb.xs fK fM (by simp;omega)
         refine Pl.aG jk rfl ?_
         refine Pl.aj ?_
         refine Pl.uT (by kernel_rfl) ?_
         refine Pl.eF [(6,.pointer (some ⟨N15,0,none⟩))] (Pl.aa rfl Pl.aI) ?_
         exact ru _ _ ⟨N15,A12,c13,(Pl.Ex.trans hE2 (Pl.Ex.trans bJ (Pl.Ex.trans bX dL))),LJ,(Zn.below rO dL),(Un.below u14 dL),rfl⟩
     · refine Pl.fZ (z:=.agg #[.bool false,.slice none 0 0]) (by kernel_rfl) rfl rfl rfl rfl (fun Y hY=>Pl.Ex.trans Cu hY) ?_
       intro N7 w4 bX anu gH
       have uD:=Pl.Cb.lt gH
       have TH:=Pl.Ex.size bX
       replace gH:Pl.Cb w4 N7 48 [.bool false,.slice none 0 0]:=gH
       have mo:=Pl.Ex.trans Cu bX
       refine Pl.aj ?_
       refine Pl.bS [3,9] 8 (by kernel_rfl) (by kernel_rfl) (by kernel_rfl) (Pl.aC ?_ (Pl.aC ?_ Pl.aR))
       · refine Pl.az rfl rfl rfl rfl rfl (fun u X=>Pl.enters Tryz.func84 (by kernel_rfl) rfl u X) ?_
         refine Calls.mono (jQ _ _ _ n (g:Int) (Zn.below hn (Pl.Ex.trans hE1 (Pl.Ex.trans hE2 (Pl.Ex.trans bJ bX)))) (Zn.below hv3 bX) (Sz.le ln (by decide)) (Sz.le (Sn.sz lg) (by decide)) hz0 _ _ rfl rfl) ?_
         rintro e w5 ⟨⟨v8,v12,rfl,DN,pX⟩,bE⟩
         obtain ⟨A9,c10,rfl,u11⟩:=id DN
         obtain ⟨Pk,c14,rfl,Pm⟩:=id pX
         have Mw:=Pl.Ex.size bE
         have hS5:=Pl.Ex.trans mo bE
         refine ⟨_,rfl,hS5,?_⟩
         refine Pl.aj ?_
         refine Pl.aM [(true,4,271),(true,5,287),(true,6,319),(true,7,383),(false,9,511),(false,10,1023),(false,11,2047),(true,12,4095)] 8191 0 Pl.aB (by kernel_rfl) (by kernel_rfl) (by kernel_rfl) ?_
         refine Pl.aG hS5 rfl ?_
         refine Pl.fZ (z:=.agg #[.bool false,.slice none 0 0]) (by kernel_rfl) rfl rfl rfl rfl (fun Y hY=>Pl.Ex.trans hS5 hY) ?_
         intro zZ w6 bu vG dD
         have uS:=Pl.Cb.lt dD
         have Cj:=Pl.Ex.size bu
         replace dD:Pl.Cb w6 zZ 48 [.bool false,.slice none 0 0]:=dD
         have gP:=Pl.Ex.trans hS5 bu
         refine Pl.eP (new:=[.bool (decide ((n/(g:Int))<0)),.slice A9 (limbs (Int.natAbs (n/(g:Int)))).length c10]) (Pl.Cb.ex gH (Pl.Ex.trans bE bu)) (by kernel_rfl) rfl (by simp [Value.oneCell']) rfl rfl rfl rfl rfl rfl (fun Y hY=>Pl.Ex.xs gP hY (by omega)) ?_
         intro w7 iy zf
         have cB:=Pl.Ex.xs (Pl.Ex.trans bX (Pl.Ex.trans bE bu)) iy (by omega)
         have zS:=Pl.Xs.size iy
         have iK:=Pl.Ex.xs gP iy (by omega)
         have fK:=Pl.Cb.xs dD iy (by simp;omega)
         have k17:=Un.xs (Un.below u11 bu) iy (Pl.Cb.ex gH (Pl.Ex.trans bE bu)) (by simp)
         have k18:=Zn.xs (Zn.below DN bu) iy (Pl.Cb.ex gH (Pl.Ex.trans bE bu)) (by simp)
         have k19:=Un.xs (Un.below Pm bu) iy (Pl.Cb.ex gH (Pl.Ex.trans bE bu)) (by simp)
         have k20:=Zn.xs (Zn.below pX bu) iy (Pl.Cb.ex gH (Pl.Ex.trans bE bu)) (by simp)
         refine Pl.eP (new:=[.bool (decide ((n%(g:Int))<0)),.slice Pk (limbs (Int.natAbs (n%(g:Int)))).length c14]) fK (by kernel_rfl) rfl (by simp [Value.oneCell']) rfl rfl rfl rfl rfl rfl (fun Y hY=>Pl.Ex.xs iK hY (by omega)) ?_
         intro w8 fM rG
         have dL:=Pl.Ex.xs cB fM (by omega)
         have xg:=Pl.Xs.size fM
         have jk:=Pl.Ex.xs iK fM (by omega)
         have aio:=Pl.Cb.xs zf fM (by simp;omega)
         have k21:=Un.xs k17 fM fK (by simp)
         have k22:=Zn.xs k18 fM fK (by simp)
         have k23:=Un.xs k19 fM fK (by simp)
         have k24:=Zn.xs k20 fM fK (by simp)
         refine Pl.aG jk rfl ?_
         refine Pl.aj ?_
         refine Pl.uT (by kernel_rfl) ?_
         refine Pl.eF [(6,.pointer (some ⟨zZ,0,none⟩))] (Pl.aa rfl Pl.aI) ?_
         exact ru _ _ ⟨zZ,Pk,c14,(Pl.Ex.trans hE2 (Pl.Ex.trans bJ dL)),rG,k24,k23,rfl⟩
       · refine Pl.fZ (z:=.agg #[.bool false,.slice none 0 0]) (by kernel_rfl) rfl rfl rfl rfl (fun Y hY=>Pl.Ex.trans mo hY) ?_
         intro N8 w5 bE ZU gI
         have GG:=Pl.Cb.lt gI
         have Mw:=Pl.Ex.size bE
         replace gI:Pl.Cb w5 N8 48 [.bool false,.slice none 0 0]:=gI
         have hS5:=Pl.Ex.trans mo bE
         refine Pl.aj ?_
         refine Pl.aM [(false,3,775),(true,4,783),(true,5,799),(true,6,831),(true,7,895),(false,10,1023),(false,11,2047),(true,12,4095)] 8191 0 Pl.aB (by kernel_rfl) (by kernel_rfl) (by kernel_rfl) ?_
         refine Pl.az rfl rfl rfl rfl rfl (fun u X=>Pl.enters Tryz.func84 (by kernel_rfl) rfl u X) ?_
         refine Calls.mono (jQ _ _ _ n (g:Int) (Zn.below hn (Pl.Ex.trans hE1 (Pl.Ex.trans hE2 (Pl.Ex.trans bJ (Pl.Ex.trans bX bE))))) (Zn.below hv3 (Pl.Ex.trans bX bE)) (Sz.le ln (by decide)) (Sz.le (Sn.sz lg) (by decide)) hz0 _ _ rfl rfl) ?_
         rintro e w6 ⟨⟨v9,v13,rfl,xk,nk⟩,bu⟩
         obtain ⟨ZV,c11,rfl,MB⟩:=id xk
         obtain ⟨MC,c15,rfl,u16⟩:=id nk
         have Cj:=Pl.Ex.size bu
         have gP:=Pl.Ex.trans hS5 bu
         refine ⟨_,rfl,gP,?_⟩
         refine Pl.aG gP rfl ?_
         refine Pl.eP (new:=[.bool (decide ((n/(g:Int))<0)),.slice ZV (limbs (Int.natAbs (n/(g:Int)))).length c11]) (Pl.Cb.ex gH (Pl.Ex.trans bE bu)) (by kernel_rfl) rfl (by simp [Value.oneCell']) rfl rfl rfl rfl rfl rfl (fun Y hY=>Pl.Ex.xs gP hY (by omega)) ?_
         intro w7 iy zf
         have cB:=Pl.Ex.xs (Pl.Ex.trans bX (Pl.Ex.trans bE bu)) iy (by omega)
         have zS:=Pl.Xs.size iy
         have iK:=Pl.Ex.xs gP iy (by omega)
         have kR:=Pl.Cb.xs (Pl.Cb.ex gI bu) iy (by simp;omega)
         have k17:=Un.xs MB iy (Pl.Cb.ex gH (Pl.Ex.trans bE bu)) (by simp)
         have k18:=Zn.xs xk iy (Pl.Cb.ex gH (Pl.Ex.trans bE bu)) (by simp)
         have k19:=Un.xs u16 iy (Pl.Cb.ex gH (Pl.Ex.trans bE bu)) (by simp)
         have k20:=Zn.xs nk iy (Pl.Cb.ex gH (Pl.Ex.trans bE bu)) (by simp)
         refine Pl.eP (new:=[.bool (decide ((n%(g:Int))<0)),.slice MC (limbs (Int.natAbs (n%(g:Int)))).length c15]) kR (by kernel_rfl) rfl (by simp [Value.oneCell']) rfl rfl rfl rfl rfl rfl (fun Y hY=>Pl.Ex.xs iK hY (by omega)) ?_
         intro w8 fM GZ
         have dL:=Pl.Ex.xs cB fM (by omega)
         have xg:=Pl.Xs.size fM
         have jk:=Pl.Ex.xs iK fM (by omega)
         have aio:=Pl.Cb.xs zf fM (by simp;omega)
         have k21:=Un.xs k17 fM kR (by simp)
         have k22:=Zn.xs k18 fM kR (by simp)
         have k23:=Un.xs k19 fM kR (by simp)
         have k24:=Zn.xs k20 fM kR (by simp)
         refine Pl.aG jk rfl ?_
         refine Pl.aj ?_
         refine Pl.uT (by kernel_rfl) ?_
         refine Pl.eF [(6,.pointer (some ⟨N8,0,none⟩))] (Pl.aa rfl Pl.aI) ?_
         exact ru _ _ ⟨N8,MC,c15,(Pl.Ex.trans hE2 (Pl.Ex.trans bJ dL)),GZ,k24,k23,rfl⟩
     · refine Pl.fZ (z:=.agg #[.bool false,.slice none 0 0]) (by kernel_rfl) rfl rfl rfl rfl (fun Y hY=>Pl.Ex.trans Cu hY) ?_
       intro N7 w4 bX anu gH
       have uD:=Pl.Cb.lt gH
       have TH:=Pl.Ex.size bX
       replace gH:Pl.Cb w4 N7 48 [.bool false,.slice none 0 0]:=gH
       have mo:=Pl.Ex.trans Cu bX
       refine Pl.aj ?_
       refine Pl.bS [3,8] 8 (by kernel_rfl) (by kernel_rfl) (by kernel_rfl) (Pl.aC ?_ (Pl.aC ?_ Pl.aR))
       · refine Pl.az rfl rfl rfl rfl rfl (fun u X=>Pl.enters Tryz.func84 (by kernel_rfl) rfl u X) ?_
         refine Calls.mono (jQ _ _ _ n (g:Int) (Zn.below hn (Pl.Ex.trans hE1 (Pl.Ex.trans hE2 (Pl.Ex.trans bJ bX)))) (Zn.below hv3 bX) (Sz.le ln (by decide)) (Sz.le (Sn.sz lg) (by decide)) hz0 _ _ rfl rfl) ?_
         rintro e w5 ⟨⟨v8,v12,rfl,DN,pX⟩,bE⟩
         obtain ⟨A9,c10,rfl,u11⟩:=id DN
         obtain ⟨Pk,c14,rfl,Pm⟩:=id pX
         have Mw:=Pl.Ex.size bE
         have hS5:=Pl.Ex.trans mo bE
         refine ⟨_,rfl,hS5,?_⟩
         refine Pl.aj ?_
         refine Pl.aM [(true,4,527),(true,5,543),(true,6,575),(true,7,639),(false,8,767),(false,10,1023),(false,11,2047),(true,12,4095)] 8191 0 Pl.aB (by kernel_rfl) (by kernel_rfl) (by kernel_rfl) ?_
         refine Pl.aG hS5 rfl ?_
         refine Pl.fZ (z:=.agg #[.bool false,.slice none 0 0]) (by kernel_rfl) rfl rfl rfl rfl (fun Y hY=>Pl.Ex.trans hS5 hY) ?_
         intro zZ w6 bu vG dD
         have uS:=Pl.Cb.lt dD
         have Cj:=Pl.Ex.size bu
         replace dD:Pl.Cb w6 zZ 48 [.bool false,.slice none 0 0]:=dD
         have gP:=Pl.Ex.trans hS5 bu
         refine Pl.eP (new:=[.bool (decide ((n/(g:Int))<0)),.slice A9 (limbs (Int.natAbs (n/(g:Int)))).length c10]) dD (by kernel_rfl) rfl (by simp [Value.oneCell']) rfl rfl rfl rfl rfl rfl (fun Y hY=>Pl.Ex.xs gP hY (by omega)) ?_
         intro w7 iy fK
         have cB:=Pl.Ex.xs bu iy (by omega)
         have zS:=Pl.Xs.size iy
         have iK:=Pl.Ex.xs gP iy (by omega)
         refine Pl.eP (new:=[.bool (decide ((n%(g:Int))<0)),.slice Pk (limbs (Int.natAbs (n%(g:Int)))).length c14]) (Pl.Cb.ex gH (Pl.Ex.trans bE cB)) (by kernel_rfl) rfl (by simp [Value.oneCell']) rfl rfl rfl rfl rfl rfl (fun Y hY=>Pl.Ex.xs iK hY (by omega)) ?_
         intro w8 fM zf
         have dL:=Pl.Ex.xs (Pl.Ex.trans bX (Pl.Ex.trans bE cB)) fM (by omega)
         have xg:=Pl.Xs.size fM
         have jk:=Pl.Ex.xs iK fM (by omega)
         have rG:=Pl.Cb.xs fK fM (by simp;omega)
         have k17:=Un.xs (Un.below u11 cB) fM (Pl.Cb.ex gH (Pl.Ex.trans bE cB)) (by simp)
         have k18:=Zn.xs (Zn.below DN cB) fM (Pl.Cb.ex gH (Pl.Ex.trans bE cB)) (by simp)
         have k19:=Un.xs (Un.below Pm cB) fM (Pl.Cb.ex gH (Pl.Ex.trans bE cB)) (by simp)
         have k20:=Zn.xs (Zn.below pX cB) fM (Pl.Cb.ex gH (Pl.Ex.trans bE cB)) (by simp)
         refine Pl.aG jk rfl ?_
         refine Pl.aj ?_
         refine Pl.uT (by kernel_rfl) ?_
         refine Pl.eF [(6,.pointer (some ⟨N7,0,none⟩))] (Pl.aa rfl Pl.aI) ?_
         exact ru _ _ ⟨N7,Pk,c14,(Pl.Ex.trans hE2 (Pl.Ex.trans bJ dL)),zf,k20,k19,rfl⟩
       · refine Pl.fZ (z:=.agg #[.bool false,.slice none 0 0]) (by kernel_rfl) rfl rfl rfl rfl (fun Y hY=>Pl.Ex.trans mo hY) ?_
         intro N8 w5 bE ZU gI
         have GG:=Pl.Cb.lt gI
         have Mw:=Pl.Ex.size bE
         replace gI:Pl.Cb w5 N8 48 [.bool false,.slice none 0 0]:=gI
         have hS5:=Pl.Ex.trans mo bE
         refine Pl.aj ?_
         refine Pl.aM [(false,3,775),(true,4,783),(true,5,799),(true,6,831),(true,7,895),(false,10,1023),(false,11,2047),(true,12,4095)] 8191 0 Pl.aB (by kernel_rfl) (by kernel_rfl) (by kernel_rfl) ?_
         refine Pl.az rfl rfl rfl rfl rfl (fun u X=>Pl.enters Tryz.func84 (by kernel_rfl) rfl u X) ?_
         refine Calls.mono (jQ _ _ _ n (g:Int) (Zn.below hn (Pl.Ex.trans hE1 (Pl.Ex.trans hE2 (Pl.Ex.trans bJ (Pl.Ex.trans bX bE))))) (Zn.below hv3 (Pl.Ex.trans bX bE)) (Sz.le ln (by decide)) (Sz.le (Sn.sz lg) (by decide)) hz0 _ _ rfl rfl) ?_
         rintro e w6 ⟨⟨v9,v13,rfl,xk,nk⟩,bu⟩
         obtain ⟨ZV,c11,rfl,MB⟩:=id xk
         obtain ⟨MC,c15,rfl,u16⟩:=id nk
         have Cj:=Pl.Ex.size bu
         have gP:=Pl.Ex.trans hS5 bu
         refine ⟨_,rfl,gP,?_⟩
         refine Pl.aG gP rfl ?_
         refine Pl.eP (new:=[.bool (decide ((n/(g:Int))<0)),.slice ZV (limbs (Int.natAbs (n/(g:Int)))).length c11]) (Pl.Cb.ex gI bu) (by kernel_rfl) rfl (by simp [Value.oneCell']) rfl rfl rfl rfl rfl rfl (fun Y hY=>Pl.Ex.xs gP hY (by omega)) ?_
         intro w7 iy kR
         have cB:=Pl.Ex.xs (Pl.Ex.trans bE bu) iy (by omega)
         have zS:=Pl.Xs.size iy
         have iK:=Pl.Ex.xs gP iy (by omega)
         have k17:=Un.xs MB iy (Pl.Cb.ex gI bu) (by simp)
         have k18:=Zn.xs xk iy (Pl.Cb.ex gI bu) (by simp)
         have k19:=Un.xs u16 iy (Pl.Cb.ex gI bu) (by simp)
         have k20:=Zn.xs nk iy (Pl.Cb.ex gI bu) (by simp)
         refine Pl.eP (new:=[.bool (decide ((n%(g:Int))<0)),.slice MC (limbs (Int.natAbs (n%(g:Int)))).length c15]) (Pl.Cb.ex gH cB) (by kernel_rfl) rfl (by simp [Value.oneCell']) rfl rfl rfl rfl rfl rfl (fun Y hY=>Pl.Ex.xs iK hY (by omega)) ?_
         intro w8 fM zf
         have dL:=Pl.Ex.xs (Pl.Ex.trans bX cB) fM (by omega)
         have xg:=Pl.Xs.size fM
         have jk:=Pl.Ex.xs iK fM (by omega)
         have GZ:=Pl.Cb.xs kR fM (by simp;omega)
         have k21:=Un.xs k17 fM (Pl.Cb.ex gH cB) (by simp)
         have k22:=Zn.xs k18 fM (Pl.Cb.ex gH cB) (by simp)
         have k23:=Un.xs k19 fM (Pl.Cb.ex gH cB) (by simp)
         have k24:=Zn.xs k20 fM (Pl.Cb.ex gH cB) (by simp)
         refine Pl.aG jk rfl ?_
         refine Pl.aj ?_
         refine Pl.uT (by kernel_rfl) ?_
         refine Pl.eF [(6,.pointer (some ⟨N7,0,none⟩))] (Pl.aa rfl Pl.aI) ?_
         exact ru _ _ ⟨N7,MC,c15,(Pl.Ex.trans hE2 (Pl.Ex.trans bJ dL)),zf,k24,k23,rfl⟩
   · refine Pl.fZ (z:=.agg #[.bool false,.slice none 0 0]) (by kernel_rfl) rfl rfl rfl rfl (fun Y hY=>Pl.Ex.trans hS2 hY) ?_
     intro N3 w3 bJ anv dH
     have Q3:=Pl.Cb.lt dH
     have TD:=Pl.Ex.size bJ
     replace dH:Pl.Cb w3 N3 48 [.bool false,.slice none 0 0]:=dH
     have Cu:=Pl.Ex.trans hS2 bJ
     refine Pl.aj ?_
     refine Pl.bS [2,9] 9 (by kernel_rfl) (by kernel_rfl) (by kernel_rfl) (Pl.aC ?_ (Pl.aC ?_ Pl.aR))
     · refine Pl.az rfl rfl rfl rfl rfl (fun u X=>Pl.enters Tryz.func35 (by kernel_rfl) rfl u X) ?_
       refine Calls.mono (jW _ _ g (Un.below hg_ (Pl.Ex.trans hE1 (Pl.Ex.trans hE2 bJ)))) ?_
       rintro e w4 ⟨v4,rfl,hv4,bX⟩
       obtain ⟨A5,c6,rfl,u7⟩:=id hv4
       have TH:=Pl.Ex.size bX
       have mo:=Pl.Ex.trans Cu bX
       refine ⟨_,rfl,mo,?_⟩
       refine Pl.aj ?_
       refine Pl.bS [3,9] 8 (by kernel_rfl) (by kernel_rfl) (by kernel_rfl) (Pl.aC ?_ (Pl.aC ?_ Pl.aR))
       · refine Pl.az rfl rfl rfl rfl rfl (fun u X=>Pl.enters Tryz.func84 (by kernel_rfl) rfl u X) ?_
         refine Calls.mono (jQ _ _ _ n (g:Int) (Zn.below hn (Pl.Ex.trans hE1 (Pl.Ex.trans hE2 (Pl.Ex.trans bJ bX)))) hv4 (Sz.le ln (by decide)) (Sz.le (Sn.sz lg) (by decide)) hz0 _ _ rfl rfl) ?_
         rintro e w5 ⟨⟨v8,v12,rfl,DN,pX⟩,bE⟩
         obtain ⟨A9,c10,rfl,u11⟩:=id DN
         obtain ⟨Pk,c14,rfl,Pm⟩:=id pX
         have Mw:=Pl.Ex.size bE
         have hS5:=Pl.Ex.trans mo bE
         refine ⟨_,rfl,hS5,?_⟩
         refine Pl.aj ?_
         refine Pl.aM [(true,4,271),(true,5,287),(true,6,319),(true,7,383),(false,9,511),(false,10,1023),(false,11,2047),(true,12,4095)] 8191 0 Pl.aB (by kernel_rfl) (by kernel_rfl) (by kernel_rfl) ?_
         refine Pl.aG hS5 rfl ?_
         refine Pl.fZ (z:=.agg #[.bool false,.slice none 0 0]) (by kernel_rfl) rfl rfl rfl rfl (fun Y hY=>Pl.Ex.trans hS5 hY) ?_
         intro zZ w6 bu vG dD
         have uS:=Pl.Cb.lt dD
         have Cj:=Pl.Ex.size bu
         replace dD:Pl.Cb w6 zZ 48 [.bool false,.slice none 0 0]:=dD
         have gP:=Pl.Ex.trans hS5 bu
         refine Pl.eP (new:=[.bool (decide ((n/(g:Int))<0)),.slice A9 (limbs (Int.natAbs (n/(g:Int)))).length c10]) (Pl.Cb.ex dH (Pl.Ex.trans bX (Pl.Ex.trans bE bu))) (by kernel_rfl) rfl (by simp [Value.oneCell']) rfl rfl rfl rfl rfl rfl (fun Y hY=>Pl.Ex.xs gP hY (by omega)) ?_
         intro w7 iy qE
         have cB:=Pl.Ex.xs (Pl.Ex.trans bJ (Pl.Ex.trans bX (Pl.Ex.trans bE bu))) iy (by omega)
         have zS:=Pl.Xs.size iy
         have iK:=Pl.Ex.xs gP iy (by omega)
         have fK:=Pl.Cb.xs dD iy (by simp;omega)
         have k17:=Un.xs (Un.below u7 (Pl.Ex.trans bE bu)) iy (Pl.Cb.ex dH (Pl.Ex.trans bX (Pl.Ex.trans bE bu))) (by simp)
         have k18:=Zn.xs (Zn.below hv4 (Pl.Ex.trans bE bu)) iy (Pl.Cb.ex dH (Pl.Ex.trans bX (Pl.Ex.trans bE bu))) (by simp)
         have k19:=Un.xs (Un.below u11 bu) iy (Pl.Cb.ex dH (Pl.Ex.trans bX (Pl.Ex.trans bE bu))) (by simp)
         have k20:=Zn.xs (Zn.below DN bu) iy (Pl.Cb.ex dH (Pl.Ex.trans bX (Pl.Ex.trans bE bu))) (by simp)
         have k21:=Un.xs (Un.below Pm bu) iy (Pl.Cb.ex dH (Pl.Ex.trans bX (Pl.Ex.trans bE bu))) (by simp)
         have k22:=Zn.xs (Zn.below pX bu) iy (Pl.Cb.ex dH (Pl.Ex.trans bX (Pl.Ex.trans bE bu))) (by simp)
         refine Pl.eP (new:=[.bool (decide ((n%(g:Int))<0)),.slice Pk (limbs (Int.natAbs (n%(g:Int)))).length c14]) fK (by kernel_rfl) rfl (by simp [Value.oneCell']) rfl rfl rfl rfl rfl rfl (fun Y hY=>Pl.Ex.xs iK hY (by omega)) ?_
         intro w8 fM rG
         have dL:=Pl.Ex.xs cB fM (by omega)
         have xg:=Pl.Xs.size fM
         have jk:=Pl.Ex.xs iK fM (by omega)
         have ZW:=Pl.Cb.xs qE fM (by simp;omega)
         have k23:=Un.xs k17 fM fK (by simp)
         have k24:=Zn.xs k18 fM fK (by simp)
         have k25:=Un.xs k19 fM fK (by simp)
         have k26:=Zn.xs k20 fM fK (by simp)
         have k27:=Un.xs k21 fM fK (by simp)
         have k28:=Zn.xs k22 fM fK (by simp)
         refine Pl.aG jk rfl ?_
         refine Pl.aj ?_
         refine Pl.uT (by kernel_rfl) ?_
         refine Pl.eF [(6,.pointer (some ⟨zZ,0,none⟩))] (Pl.aa rfl Pl.aI) ?_
         exact ru _ _ ⟨zZ,Pk,c14,(Pl.Ex.trans hE2 dL),rG,k28,k27,rfl⟩
       · refine Pl.fZ (z:=.agg #[.bool false,.slice none 0 0]) (by kernel_rfl) rfl rfl rfl rfl (fun Y hY=>Pl.Ex.trans mo hY) ?_
         intro N8 w5 bE ZU gI
         have GG:=Pl.Cb.lt gI
         have Mw:=Pl.Ex.size bE
         replace gI:Pl.Cb w5 N8 48 [.bool false,.slice none 0 0]:=gI
         have hS5:=Pl.Ex.trans mo bE
         refine Pl.aj ?_
         refine Pl.aM [(false,3,775),(true,4,783),(true,5,799),(true,6,831),(true,7,895),(false,10,1023),(false,11,2047),(true,12,4095)] 8191 0 Pl.aB (by kernel_rfl) (by kernel_rfl) (by kernel_rfl) ?_
         refine Pl.az rfl rfl rfl rfl rfl (fun u X=>Pl.enters Tryz.func84 (by kernel_rfl) rfl u X) ?_
         refine Calls.mono (jQ _ _ _ n (g:Int) (Zn.below hn (Pl.Ex.trans hE1 (Pl.Ex.trans hE2 (Pl.Ex.trans bJ (Pl.Ex.trans bX bE))))) (Zn.below hv4 bE) (Sz.le ln (by decide)) (Sz.le (Sn.sz lg) (by decide)) hz0 _ _ rfl rfl) ?_
         rintro e w6 ⟨⟨v9,v13,rfl,xk,nk⟩,bu⟩
         obtain ⟨ZV,c11,rfl,MB⟩:=id xk
         obtain ⟨MC,c15,rfl,u16⟩:=id nk
         have Cj:=Pl.Ex.size bu
         have gP:=Pl.Ex.trans hS5 bu
         refine ⟨_,rfl,gP,?_⟩
         refine Pl.aG gP rfl ?_
         refine Pl.eP (new:=[.bool (decide ((n/(g:Int))<0)),.slice ZV (limbs (Int.natAbs (n/(g:Int)))).length c11]) (Pl.Cb.ex dH (Pl.Ex.trans bX (Pl.Ex.trans bE bu))) (by kernel_rfl) rfl (by simp [Value.oneCell']) rfl rfl rfl rfl rfl rfl (fun Y hY=>Pl.Ex.xs gP hY (by omega)) ?_
         intro w7 iy qE
         have cB:=Pl.Ex.xs (Pl.Ex.trans bJ (Pl.Ex.trans bX (Pl.Ex.trans bE bu))) iy (by omega)
         have zS:=Pl.Xs.size iy
         have iK:=Pl.Ex.xs gP iy (by omega)
         have kR:=Pl.Cb.xs (Pl.Cb.ex gI bu) iy (by simp;omega)
         have k17:=Un.xs (Un.below u7 (Pl.Ex.trans bE bu)) iy (Pl.Cb.ex dH (Pl.Ex.trans bX (Pl.Ex.trans bE bu))) (by simp)
         have k18:=Zn.xs (Zn.below hv4 (Pl.Ex.trans bE bu)) iy (Pl.Cb.ex dH (Pl.Ex.trans bX (Pl.Ex.trans bE bu))) (by simp)
         have k19:=Un.xs MB iy (Pl.Cb.ex dH (Pl.Ex.trans bX (Pl.Ex.trans bE bu))) (by simp)
         have k20:=Zn.xs xk iy (Pl.Cb.ex dH (Pl.Ex.trans bX (Pl.Ex.trans bE bu))) (by simp)
         have k21:=Un.xs u16 iy (Pl.Cb.ex dH (Pl.Ex.trans bX (Pl.Ex.trans bE bu))) (by simp)
         have k22:=Zn.xs nk iy (Pl.Cb.ex dH (Pl.Ex.trans bX (Pl.Ex.trans bE bu))) (by simp)
         refine Pl.eP (new:=[.bool (decide ((n%(g:Int))<0)),.slice MC (limbs (Int.natAbs (n%(g:Int)))).length c15]) kR (by kernel_rfl) rfl (by simp [Value.oneCell']) rfl rfl rfl rfl rfl rfl (fun Y hY=>Pl.Ex.xs iK hY (by omega)) ?_
         intro w8 fM GZ
         have dL:=Pl.Ex.xs cB fM (by omega)
         have xg:=Pl.Xs.size fM
         have jk:=Pl.Ex.xs iK fM (by omega)
         have ZW:=Pl.Cb.xs qE fM (by simp;omega)
         have k23:=Un.xs k17 fM kR (by simp)
         have k24:=Zn.xs k18 fM kR (by simp)
         have k25:=Un.xs k19 fM kR (by simp)
         have k26:=Zn.xs k20 fM kR (by simp)
         have k27:=Un.xs k21 fM kR (by simp)
         have k28:=Zn.xs k22 fM kR (by simp)
         refine Pl.aG jk rfl ?_
         refine Pl.aj ?_
         refine Pl.uT (by kernel_rfl) ?_
         refine Pl.eF [(6,.pointer (some ⟨N8,0,none⟩))] (Pl.aa rfl Pl.aI) ?_
         exact ru _ _ ⟨N8,MC,c15,(Pl.Ex.trans hE2 dL),GZ,k28,k27,rfl⟩
     · refine Pl.fZ (z:=.agg #[.bool false,.slice none 0 0]) (by kernel_rfl) rfl rfl rfl rfl (fun Y hY=>Pl.Ex.trans Cu hY) ?_
       intro N4 w4 bX anw mF
       have CW:=Pl.Cb.lt mF
       have TH:=Pl.Ex.size bX
       replace mF:Pl.Cb w4 N4 48 [.bool false,.slice none 0 0]:=mF
       have mo:=Pl.Ex.trans Cu bX
       refine Pl.aj ?_
       refine Pl.aM [(false,2,771),(false,3,775),(true,4,783),(true,5,799),(true,6,831),(true,7,895),(false,10,1023),(false,11,2047),(true,12,4095)] 8191 0 Pl.aB (by kernel_rfl) (by kernel_rfl) (by kernel_rfl) ?_
       refine Pl.az rfl rfl rfl rfl rfl (fun u X=>Pl.enters Tryz.func35 (by kernel_rfl) rfl u X) ?_
       refine Calls.mono (jW _ _ g (Un.below hg_ (Pl.Ex.trans hE1 (Pl.Ex.trans hE2 (Pl.Ex.trans bJ bX))))) ?_
       rintro e w5 ⟨v5,rfl,hv5,bE⟩
       obtain ⟨A6,c7,rfl,u8⟩:=id hv5
       have Mw:=Pl.Ex.size bE
       have hS5:=Pl.Ex.trans mo bE
       refine ⟨_,rfl,hS5,?_⟩
       refine Pl.az rfl rfl rfl rfl rfl (fun u X=>Pl.enters Tryz.func84 (by kernel_rfl) rfl u X) ?_
       refine Calls.mono (jQ _ _ _ n (g:Int) (Zn.below hn (Pl.Ex.trans hE1 (Pl.Ex.trans hE2 (Pl.Ex.trans bJ (Pl.Ex.trans bX bE))))) hv5 (Sz.le ln (by decide)) (Sz.le (Sn.sz lg) (by decide)) hz0 _ _ rfl rfl) ?_
       rintro e w6 ⟨⟨v9,v13,rfl,xk,nk⟩,bu⟩
       obtain ⟨ZV,c11,rfl,MB⟩:=id xk
       obtain ⟨MC,c15,rfl,u16⟩:=id nk
       have Cj:=Pl.Ex.size bu
       have gP:=Pl.Ex.trans hS5 bu
       refine ⟨_,rfl,gP,?_⟩
       refine Pl.aG gP rfl ?_
       refine Pl.eP (new:=[.bool (decide ((n/(g:Int))<0)),.slice ZV (limbs (Int.natAbs (n/(g:Int)))).length c11]) (Pl.Cb.ex dH (Pl.Ex.trans bX (Pl.Ex.trans bE bu))) (by kernel_rfl) rfl (by simp [Value.oneCell']) rfl rfl rfl rfl rfl rfl (fun Y hY=>Pl.Ex.xs gP hY (by omega)) ?_
       intro w7 iy qE
       have cB:=Pl.Ex.xs (Pl.Ex.trans bJ (Pl.Ex.trans bX (Pl.Ex.trans bE bu))) iy (by omega)
       have zS:=Pl.Xs.size iy
       have iK:=Pl.Ex.xs gP iy (by omega)
       have uG:=Pl.Cb.xs (Pl.Cb.ex mF (Pl.Ex.trans bE bu)) iy (by simp;omega)
       have k17:=Un.xs (Un.below u8 bu) iy (Pl.Cb.ex dH (Pl.Ex.trans bX (Pl.Ex.trans bE bu))) (by simp)
       have k18:=Zn.xs (Zn.below hv5 bu) iy (Pl.Cb.ex dH (Pl.Ex.trans bX (Pl.Ex.trans bE bu))) (by simp)
       have k19:=Un.xs MB iy (Pl.Cb.ex dH (Pl.Ex.trans bX (Pl.Ex.trans bE bu))) (by simp)
       have k20:=Zn.xs xk iy (Pl.Cb.ex dH (Pl.Ex.trans bX (Pl.Ex.trans bE bu))) (by simp)
       have k21:=Un.xs u16 iy (Pl.Cb.ex dH (Pl.Ex.trans bX (Pl.Ex.trans bE bu))) (by simp)
       have k22:=Zn.xs nk iy (Pl.Cb.ex dH (Pl.Ex.trans bX (Pl.Ex.trans bE bu))) (by simp)
       refine Pl.eP (new:=[.bool (decide ((n%(g:Int))<0)),.slice MC (limbs (Int.natAbs (n%(g:Int)))).length c15]) uG (by kernel_rfl) rfl (by simp [Value.oneCell']) rfl rfl rfl rfl rfl rfl (fun Y hY=>Pl.Ex.xs iK hY (by omega)) ?_
       intro w8 fM ZX
       have dL:=Pl.Ex.xs cB fM (by omega)
       have xg:=Pl.Xs.size fM
       have jk:=Pl.Ex.xs iK fM (by omega)
       have ZW:=Pl.Cb.xs qE fM (by simp;omega)
       have k23:=Un.xs k17 fM uG (by simp)
       have k24:=Zn.xs k18 fM uG (by simp)
       have k25:=Un.xs k19 fM uG (by simp)
       have k26:=Zn.xs k20 fM uG (by simp)
       have k27:=Un.xs k21 fM uG (by simp)
       have k28:=Zn.xs k22 fM uG (by simp)
       refine Pl.aG jk rfl ?_
       refine Pl.aj ?_
       refine Pl.uT (by kernel_rfl) ?_
       refine Pl.eF [(6,.pointer (some ⟨N4,0,none⟩))] (Pl.aa rfl Pl.aI) ?_
       exact ru _ _ ⟨N4,MC,c15,(Pl.Ex.trans hE2 dL),ZX,k28,k27,rfl⟩
   · refine Pl.fZ (z:=.agg #[.bool false,.slice none 0 0]) (by kernel_rfl) rfl rfl rfl rfl (fun Y hY=>Pl.Ex.trans hS2 hY) ?_
     intro N3 w3 bJ anv dH
     have Q3:=Pl.Cb.lt dH
     have TD:=Pl.Ex.size bJ
     replace dH:Pl.Cb w3 N3 48 [.bool false,.slice none 0 0]:=dH
     have Cu:=Pl.Ex.trans hS2 bJ
     refine Pl.aj ?_
     refine Pl.bS [2,8] 9 (by kernel_rfl) (by kernel_rfl) (by kernel_rfl) (Pl.aC ?_ (Pl.aC ?_ Pl.aR))
     · refine Pl.az rfl rfl rfl rfl rfl (fun u X=>Pl.enters Tryz.func35 (by kernel_rfl) rfl u X) ?_
       refine Calls.mono (jW _ _ g (Un.below hg_ (Pl.Ex.trans hE1 (Pl.Ex.trans hE2 bJ)))) ?_
       rintro e w4 ⟨v4,rfl,hv4,bX⟩
       obtain ⟨A5,c6,rfl,u7⟩:=id hv4
       have TH:=Pl.Ex.size bX
       have mo:=Pl.Ex.trans Cu bX
       refine ⟨_,rfl,mo,?_⟩
       refine Pl.aj ?_
       refine Pl.bS [3,8] 8 (by kernel_rfl) (by kernel_rfl) (by kernel_rfl) (Pl.aC ?_ (Pl.aC ?_ Pl.aR))
       · refine Pl.az rfl rfl rfl rfl rfl (fun u X=>Pl.enters Tryz.func84 (by kernel_rfl) rfl u X) ?_
         refine Calls.mono (jQ _ _ _ n (g:Int) (Zn.below hn (Pl.Ex.trans hE1 (Pl.Ex.trans hE2 (Pl.Ex.trans bJ bX)))) hv4 (Sz.le ln (by decide)) (Sz.le (Sn.sz lg) (by decide)) hz0 _ _ rfl rfl) ?_
         rintro e w5 ⟨⟨v8,v12,rfl,DN,pX⟩,bE⟩
         obtain ⟨A9,c10,rfl,u11⟩:=id DN
         obtain ⟨Pk,c14,rfl,Pm⟩:=id pX
         have Mw:=Pl.Ex.size bE
         have hS5:=Pl.Ex.trans mo bE
         refine ⟨_,rfl,hS5,?_⟩
         refine Pl.aj ?_
         refine Pl.aM [(true,4,527),(true,5,543),(true,6,575),(true,7,639),(false,8,767),(false,10,1023),(false,11,2047),(true,12,4095)] 8191 0 Pl.aB (by kernel_rfl) (by kernel_rfl) (by kernel_rfl) ?_
         refine Pl.aG hS5 rfl ?_
         refine Pl.fZ (z:=.agg #[.bool false,.slice none 0 0]) (by kernel_rfl) rfl rfl rfl rfl (fun Y hY=>Pl.Ex.trans hS5 hY) ?_
         intro zZ w6 bu vG dD
         have uS:=Pl.Cb.lt dD
         have Cj:=Pl.Ex.size bu
         replace dD:Pl.Cb w6 zZ 48 [.bool false,.slice none 0 0]:=dD
         have gP:=Pl.Ex.trans hS5 bu
         refine Pl.eP (new:=[.bool (decide ((n/(g:Int))<0)),.slice A9 (limbs (Int.natAbs (n/(g:Int)))).length c10]) dD (by kernel_rfl) rfl (by simp [Value.oneCell']) rfl rfl rfl rfl rfl rfl (fun Y hY=>Pl.Ex.xs gP hY (by omega)) ?_
         intro w7 iy fK
         have cB:=Pl.Ex.xs bu iy (by omega)
         have zS:=Pl.Xs.size iy
         have iK:=Pl.Ex.xs gP iy (by omega)
         refine Pl.eP (new:=[.bool (decide ((n%(g:Int))<0)),.slice Pk (limbs (Int.natAbs (n%(g:Int)))).length c14]) (Pl.Cb.ex dH (Pl.Ex.trans bX (Pl.Ex.trans bE cB))) (by kernel_rfl) rfl (by simp [Value.oneCell']) rfl rfl rfl rfl rfl rfl (fun Y hY=>Pl.Ex.xs iK hY (by omega)) ?_
         intro w8 fM qE
         have dL:=Pl.Ex.xs (Pl.Ex.trans bJ (Pl.Ex.trans bX (Pl.Ex.trans bE cB))) fM (by omega)
         have xg:=Pl.Xs.size fM
         have jk:=Pl.Ex.xs iK fM (by omega)
         have rG:=Pl.Cb.xs fK fM (by simp;omega)
         have k17:=Un.xs (Un.below u7 (Pl.Ex.trans bE cB)) fM (Pl.Cb.ex dH (Pl.Ex.trans bX (Pl.Ex.trans bE cB))) (by simp)
         have k18:=Zn.xs (Zn.below hv4 (Pl.Ex.trans bE cB)) fM (Pl.Cb.ex dH (Pl.Ex.trans bX (Pl.Ex.trans bE cB))) (by simp)
         have k19:=Un.xs (Un.below u11 cB) fM (Pl.Cb.ex dH (Pl.Ex.trans bX (Pl.Ex.trans bE cB))) (by simp)
         have k20:=Zn.xs (Zn.below DN cB) fM (Pl.Cb.ex dH (Pl.Ex.trans bX (Pl.Ex.trans bE cB))) (by simp)
         have k21:=Un.xs (Un.below Pm cB) fM (Pl.Cb.ex dH (Pl.Ex.trans bX (Pl.Ex.trans bE cB))) (by simp)
         have k22:=Zn.xs (Zn.below pX cB) fM (Pl.Cb.ex dH (Pl.Ex.trans bX (Pl.Ex.trans bE cB))) (by simp)
         refine Pl.aG jk rfl ?_
         refine Pl.aj ?_
         refine Pl.uT (by kernel_rfl) ?_
         refine Pl.eF [(6,.pointer (some ⟨N3,0,none⟩))] (Pl.aa rfl Pl.aI) ?_
         exact ru _ _ ⟨N3,Pk,c14,(Pl.Ex.trans hE2 dL),qE,k22,k21,rfl⟩
       · refine Pl.fZ (z:=.agg #[.bool false,.slice none 0 0]) (by kernel_rfl) rfl rfl rfl rfl (fun Y hY=>Pl.Ex.trans mo hY) ?_
         intro N8 w5 bE ZU gI
         have GG:=Pl.Cb.lt gI
         have Mw:=Pl.Ex.size bE
         replace gI:Pl.Cb w5 N8 48 [.bool false,.slice none 0 0]:=gI
         have hS5:=Pl.Ex.trans mo bE
         refine Pl.aj ?_
         refine Pl.aM [(false,3,775),(true,4,783),(true,5,799),(true,6,831),(true,7,895),(false,10,1023),(false,11,2047),(true,12,4095)] 8191 0 Pl.aB (by kernel_rfl) (by kernel_rfl) (by kernel_rfl) ?_
         refine Pl.az rfl rfl rfl rfl rfl (fun u X=>Pl.enters Tryz.func84 (by kernel_rfl) rfl u X) ?_
         refine Calls.mono (jQ _ _ _ n (g:Int) (Zn.below hn (Pl.Ex.trans hE1 (Pl.Ex.trans hE2 (Pl.Ex.trans bJ (Pl.Ex.trans bX bE))))) (Zn.below hv4 bE) (Sz.le ln (by decide)) (Sz.le (Sn.sz lg) (by decide)) hz0 _ _ rfl rfl) ?_
         rintro e w6 ⟨⟨v9,v13,rfl,xk,nk⟩,bu⟩
         obtain ⟨ZV,c11,rfl,MB⟩:=id xk
         obtain ⟨MC,c15,rfl,u16⟩:=id nk
         have Cj:=Pl.Ex.size bu
         have gP:=Pl.Ex.trans hS5 bu
         refine ⟨_,rfl,gP,?_⟩
         refine Pl.aG gP rfl ?_
         refine Pl.eP (new:=[.bool (decide ((n/(g:Int))<0)),.slice ZV (limbs (Int.natAbs (n/(g:Int)))).length c11]) (Pl.Cb.ex gI bu) (by kernel_rfl) rfl (by simp [Value.oneCell']) rfl rfl rfl rfl rfl rfl (fun Y hY=>Pl.Ex.xs gP hY (by omega)) ?_
         intro w7 iy kR
         have cB:=Pl.Ex.xs (Pl.Ex.trans bE bu) iy (by omega)
         have zS:=Pl.Xs.size iy
         have iK:=Pl.Ex.xs gP iy (by omega)
         have k17:=Un.xs MB iy (Pl.Cb.ex gI bu) (by simp)
         have k18:=Zn.xs xk iy (Pl.Cb.ex gI bu) (by simp)
         have k19:=Un.xs u16 iy (Pl.Cb.ex gI bu) (by simp)
         have k20:=Zn.xs nk iy (Pl.Cb.ex gI bu) (by simp)
         refine Pl.eP (new:=[.bool (decide ((n%(g:Int))<0)),.slice MC (limbs (Int.natAbs (n%(g:Int)))).length c15]) (Pl.Cb.ex dH (Pl.Ex.trans bX cB)) (by kernel_rfl) rfl (by simp [Value.oneCell']) rfl rfl rfl rfl rfl rfl (fun Y hY=>Pl.Ex.xs iK hY (by omega)) ?_
         intro w8 fM qE
         have dL:=Pl.Ex.xs (Pl.Ex.trans bJ (Pl.Ex.trans bX cB)) fM (by omega)
         have xg:=Pl.Xs.size fM
         have jk:=Pl.Ex.xs iK fM (by omega)
         have GZ:=Pl.Cb.xs kR fM (by simp;omega)
         have k21:=Un.xs (Un.below u7 cB) fM (Pl.Cb.ex dH (Pl.Ex.trans bX cB)) (by simp)
         have k22:=Zn.xs (Zn.below hv4 cB) fM (Pl.Cb.ex dH (Pl.Ex.trans bX cB)) (by simp)
         have k23:=Un.xs k17 fM (Pl.Cb.ex dH (Pl.Ex.trans bX cB)) (by simp)
         have k24:=Zn.xs k18 fM (Pl.Cb.ex dH (Pl.Ex.trans bX cB)) (by simp)
         have k25:=Un.xs k19 fM (Pl.Cb.ex dH (Pl.Ex.trans bX cB)) (by simp)
         have k26:=Zn.xs k20 fM (Pl.Cb.ex dH (Pl.Ex.trans bX cB)) (by simp)
         refine Pl.aG jk rfl ?_
         refine Pl.aj ?_
         refine Pl.uT (by kernel_rfl) ?_
         refine Pl.eF [(6,.pointer (some ⟨N3,0,none⟩))] (Pl.aa rfl Pl.aI) ?_
         exact ru _ _ ⟨N3,MC,c15,(Pl.Ex.trans hE2 dL),qE,k26,k25,rfl⟩
     · refine Pl.fZ (z:=.agg #[.bool false,.slice none 0 0]) (by kernel_rfl) rfl rfl rfl rfl (fun Y hY=>Pl.Ex.trans Cu hY) ?_
       intro N4 w4 bX anw mF
       have CW:=Pl.Cb.lt mF
       have TH:=Pl.Ex.size bX
       replace mF:Pl.Cb w4 N4 48 [.bool false,.slice none 0 0]:=mF
       have mo:=Pl.Ex.trans Cu bX
       refine Pl.aj ?_
       refine Pl.aM [(false,2,771),(false,3,775),(true,4,783),(true,5,799),(true,6,831),(true,7,895),(false,10,1023),(false,11,2047),(true,12,4095)] 8191 0 Pl.aB (by kernel_rfl) (by kernel_rfl) (by kernel_rfl) ?_
       refine Pl.az rfl rfl rfl rfl rfl (fun u X=>Pl.enters Tryz.func35 (by kernel_rfl) rfl u X) ?_
       refine Calls.mono (jW _ _ g (Un.below hg_ (Pl.Ex.trans hE1 (Pl.Ex.trans hE2 (Pl.Ex.trans bJ bX))))) ?_
       rintro e w5 ⟨v5,rfl,hv5,bE⟩
       obtain ⟨A6,c7,rfl,u8⟩:=id hv5
       have Mw:=Pl.Ex.size bE
       have hS5:=Pl.Ex.trans mo bE
       refine ⟨_,rfl,hS5,?_⟩
       refine Pl.az rfl rfl rfl rfl rfl (fun u X=>Pl.enters Tryz.func84 (by kernel_rfl) rfl u X) ?_
       refine Calls.mono (jQ _ _ _ n (g:Int) (Zn.below hn (Pl.Ex.trans hE1 (Pl.Ex.trans hE2 (Pl.Ex.trans bJ (Pl.Ex.trans bX bE))))) hv5 (Sz.le ln (by decide)) (Sz.le (Sn.sz lg) (by decide)) hz0 _ _ rfl rfl) ?_
       rintro e w6 ⟨⟨v9,v13,rfl,xk,nk⟩,bu⟩
       obtain ⟨ZV,c11,rfl,MB⟩:=id xk
       obtain ⟨MC,c15,rfl,u16⟩:=id nk
       have Cj:=Pl.Ex.size bu
       have gP:=Pl.Ex.trans hS5 bu
       refine ⟨_,rfl,gP,?_⟩
       refine Pl.aG gP rfl ?_
       refine Pl.eP (new:=[.bool (decide ((n/(g:Int))<0)),.slice ZV (limbs (Int.natAbs (n/(g:Int)))).length c11]) (Pl.Cb.ex mF (Pl.Ex.trans bE bu)) (by kernel_rfl) rfl (by simp [Value.oneCell']) rfl rfl rfl rfl rfl rfl (fun Y hY=>Pl.Ex.xs gP hY (by omega)) ?_
       intro w7 iy uG
       have cB:=Pl.Ex.xs (Pl.Ex.trans bX (Pl.Ex.trans bE bu)) iy (by omega)
       have zS:=Pl.Xs.size iy
       have iK:=Pl.Ex.xs gP iy (by omega)
       have k17:=Un.xs (Un.below u8 bu) iy (Pl.Cb.ex mF (Pl.Ex.trans bE bu)) (by simp)
       have k18:=Zn.xs (Zn.below hv5 bu) iy (Pl.Cb.ex mF (Pl.Ex.trans bE bu)) (by simp)
       have k19:=Un.xs MB iy (Pl.Cb.ex mF (Pl.Ex.trans bE bu)) (by simp)
       have k20:=Zn.xs xk iy (Pl.Cb.ex mF (Pl.Ex.trans bE bu)) (by simp)
       have k21:=Un.xs u16 iy (Pl.Cb.ex mF (Pl.Ex.trans bE bu)) (by simp)
       have k22:=Zn.xs nk iy (Pl.Cb.ex mF (Pl.Ex.trans bE bu)) (by simp)
       refine Pl.eP (new:=[.bool (decide ((n%(g:Int))<0)),.slice MC (limbs (Int.natAbs (n%(g:Int)))).length c15]) (Pl.Cb.ex dH cB) (by kernel_rfl) rfl (by simp [Value.oneCell']) rfl rfl rfl rfl rfl rfl (fun Y hY=>Pl.Ex.xs iK hY (by omega)) ?_
       intro w8 fM qE
       have dL:=Pl.Ex.xs (Pl.Ex.trans bJ cB) fM (by omega)
       have xg:=Pl.Xs.size fM
       have jk:=Pl.Ex.xs iK fM (by omega)
       have ZX:=Pl.Cb.xs uG fM (by simp;omega)
       have k23:=Un.xs k17 fM (Pl.Cb.ex dH cB) (by simp)
       have k24:=Zn.xs k18 fM (Pl.Cb.ex dH cB) (by simp)
       have k25:=Un.xs k19 fM (Pl.Cb.ex dH cB) (by simp)
       have k26:=Zn.xs k20 fM (Pl.Cb.ex dH cB) (by simp)
       have k27:=Un.xs k21 fM (Pl.Cb.ex dH cB) (by simp)
       have k28:=Zn.xs k22 fM (Pl.Cb.ex dH cB) (by simp)
       refine Pl.aG jk rfl ?_
       refine Pl.aj ?_
       refine Pl.uT (by kernel_rfl) ?_
       refine Pl.eF [(6,.pointer (some ⟨N3,0,none⟩))] (Pl.aa rfl Pl.aI) ?_
       exact ru _ _ ⟨N3,MC,c15,(Pl.Ex.trans hE2 dL),qE,k28,k27,rfl⟩
theorem anx {a b u v z g:Int} (h:u*a+v*b=g) (hz:z%g=0):a*u*(z/g)+b*v*(z/g)=z:=by
 rw [← Int.add_mul,Int.mul_comm a,Int.mul_comm b,h,Int.mul_comm]
 exact Int.ediv_mul_cancel (Int.dvd_of_emod_eq_zero hz)
theorem G5 (w : World) (r0:Value) (xa:List Nat) (u0:U w r0 xa) (r1:Value) (xb:List Nat) (u1:U w r1 xb) (sz:Bool) (Az:Option Addr) (cz:Nat) (xz:List Nat) (uz:U w (.slice Az xz.length cz) xz) :
  Calls Tryz.prog 7 #[.agg #[r0,r1],.agg #[.bool sz,.slice Az xz.length cz]] w fun e w'=>e = .returned (.bool true)∧Ext w w':=by
 obtain ⟨a,da⟩:∃ q,lF xa 12=q:=⟨_,rfl⟩
 have la:Sn a 12:=by rw [← da];exact jS xa 12 u0.lim
 obtain ⟨b,db⟩:∃ q,lF xb 12=q:=⟨_,rfl⟩
 have lb:Sn b 12:=by rw [← db];exact jS xb 12 u1.lim
 have rz:Ri w (.agg #[.bool sz,.slice Az xz.length cz]) sz xz:=⟨_,_,rfl,uz⟩
 obtain ⟨z,dz⟩:∃ q,sg sz (lF xz 12)=q:=⟨_,rfl⟩
 have lz:Sz z 12:=by rw [← dz];exact Sz.cut uz sz 12 12 (Nat.le_refl _)
 obtain ⟨u,qu⟩:∃ q,(cf (quo a b) 1 0).1=q:=⟨_,rfl⟩
 obtain ⟨v,qv⟩:∃ q,(cf (quo a b) 0 1).1=q:=⟨_,rfl⟩
 obtain ⟨g,qg⟩:∃ q,Nat.gcd a b=q:=⟨_,rfl⟩
 have lg:Sn g 12:=by rw [← qg];exact la.gcd lb
 have su:Sz u 90:=by rw [← qu];exact JV (lb.le (by decide))
 have sv:Sz v 104:=by rw [← qv];exact aim la lb
 have ata:u*(a:Int)+v*(b:Int)=(g:Int):=by rw [← qu,← qv,← qg];exact bez a b
 refine Pl.aZ (n:=71) (vs:=[.agg #[r0,r1],.agg #[.bool sz,.slice Az xz.length cz]]) Tryz.func7 rfl (by kernel_rfl) (by simp) ?_
 repeat refine Pl.ay ?_
 refine Pl.ak (by kernel_rfl) ?_
 refine Pl.AR (cs:=[r0,r1]) rfl rfl rfl rfl rfl rfl (fun Y hY=>trivial) ?_
 intro N1 w1 hE1 Uc jF
 have uU:=Pl.Cb.lt jF
 have X0:=Pl.Ex.size hE1
 refine Pl.AR (cs:=[.bool sz,.slice Az xz.length cz]) rfl rfl rfl rfl rfl rfl (fun Y hY=>trivial) ?_
 intro N2 w2 hE2 awU ZY
 have uV:=Pl.Cb.lt ZY
 have WY:=Pl.Ex.size hE2
 refine Pl.aG trivial rfl ?_
 refine Pl.aj ?_
 repeat refine Pl.ay ?_
 refine Pl.ak (by kernel_rfl) ?_
 refine Pl.az rfl rfl rfl rfl rfl (fun u X=>Pl.enters Tryz.func8 (by kernel_rfl) rfl u X) ?_
 refine Calls.mono (pF _) ?_
 rintro e w3 ⟨rfl,bJ⟩
 have TD:=Pl.Ex.size bJ
 refine ⟨_,rfl,trivial,?_⟩
 refine Pl.aG trivial rfl ?_
 refine Pl.aj ?_
 repeat refine Pl.ay ?_
 refine Pl.ak (by kernel_rfl) ?_
 refine Pl.sU (s:=1) (j:=0) Tryz.underlying23 (by kernel_rfl) rfl (by omega) trivial rfl rfl rfl rfl rfl rfl ?_
 refine Pl.oI (v:=r0) Tryz.underlying22 rfl (Pl.Cb.at (j:=0) (Pl.Cb.ex jF (Pl.Ex.trans hE2 bJ)) rfl) trivial rfl rfl rfl rfl rfl ?_
 refine Pl.az rfl rfl rfl rfl rfl (fun u X=>Pl.enters Tryz.func9 (by kernel_rfl) rfl u X) ?_
 refine Calls.mono (nA _ _ xa 12 (U.below u0 (Pl.Ex.trans hE1 (Pl.Ex.trans hE2 bJ))) (by decide) (by decide) a da) ?_
 rintro e w4 ⟨v3,rfl,hv3,bX⟩
 have TH:=Pl.Ex.size bX
 refine ⟨_,rfl,trivial,?_⟩
 refine Pl.aG trivial rfl ?_
 refine Pl.aj ?_
 repeat refine Pl.ay ?_
 refine Pl.ak (by kernel_rfl) ?_
 refine Pl.sU (s:=1) (j:=1) Tryz.underlying23 (by kernel_rfl) rfl (by omega) trivial rfl rfl rfl rfl rfl rfl ?_
 refine Pl.oI (v:=r1) Tryz.underlying22 rfl (Pl.Cb.at (j:=1) (Pl.Cb.ex jF (Pl.Ex.trans hE2 (Pl.Ex.trans bJ bX))) rfl) trivial rfl rfl rfl rfl rfl ?_
 refine Pl.az rfl rfl rfl rfl rfl (fun u X=>Pl.enters Tryz.func9 (by kernel_rfl) rfl u X) ?_
 refine Calls.mono (nA _ _ xb 12 (U.below u1 (Pl.Ex.trans hE1 (Pl.Ex.trans hE2 (Pl.Ex.trans bJ bX)))) (by decide) (by decide) b db) ?_
 rintro e w5 ⟨v4,rfl,hv4,bE⟩
 have Mw:=Pl.Ex.size bE
 refine ⟨_,rfl,trivial,?_⟩
 refine Pl.aG trivial rfl ?_
 refine Pl.aj ?_
 repeat refine Pl.ay ?_
 refine Pl.ak (by kernel_rfl) ?_
 refine Pl.F6 (part:=[.bool sz,.slice Az xz.length cz]) (Pl.Cb.ex ZY (Pl.Ex.trans bJ (Pl.Ex.trans bX bE))) rfl Tryz.underlying48 rfl (by kernel_rfl) trivial rfl rfl rfl rfl rfl ?_
 refine Pl.az rfl rfl rfl rfl rfl (fun u X=>Pl.enters Tryz.func32 (by kernel_rfl) rfl u X) ?_
 refine Calls.mono (ad' _ _ _ _ (Ri.below rz (Pl.Ex.trans hE1 (Pl.Ex.trans hE2 (Pl.Ex.trans bJ (Pl.Ex.trans bX bE))))) 12 _ rfl (by decide) z dz) ?_
 rintro e w6 ⟨v5,rfl,hv5,bu⟩
 obtain ⟨A6,c7,rfl,u8⟩:=id hv5
 have Cj:=Pl.Ex.size bu
 refine ⟨_,rfl,trivial,?_⟩
 refine Pl.fZ (z:=.agg #[.bool false,.slice none 0 0]) (by kernel_rfl) rfl rfl rfl rfl (fun Y hY=>trivial) ?_
 intro N9 w7 cB anz wB
 have atb:=Pl.Cb.lt wB
 have zS:=Pl.Ex.size cB
 replace wB:Pl.Cb w7 N9 48 [.bool false,.slice none 0 0]:=wB
 refine Pl.eP (new:=[.bool (decide (z<0)),.slice A6 (limbs (Int.natAbs z)).length c7]) wB (by kernel_rfl) rfl (by simp [Value.oneCell']) rfl rfl rfl rfl rfl rfl (fun Y hY=>trivial) ?_
 intro w8 fM G6
 have dL:=Pl.Ex.xs cB fM (by omega)
 have xg:=Pl.Xs.size fM
 refine Pl.aj ?_
 repeat refine Pl.ay ?_
 refine Pl.ak (by kernel_rfl) ?_
 refine Pl.aG trivial rfl ?_
 refine Pl.az rfl rfl rfl rfl rfl (fun u X=>Pl.enters Tryz.func33 (by kernel_rfl) rfl u X) ?_
 refine Calls.mono (aea _ _ _ a b (Un.below hv3 (Pl.Ex.trans bE (Pl.Ex.trans bu dL))) (Un.below hv4 (Pl.Ex.trans bu dL)) (Sn.le la (by decide)) (Sn.le lb (by decide))) ?_
 rintro e w9 ⟨v10,v11,v15,rfl,nP,rO,Es,fu⟩
 rw [qu] at rO
 rw [qv] at Es
 obtain ⟨A12,c13,rfl,u14⟩:=id rO
 obtain ⟨A16,c17,rfl,u18⟩:=id Es
 have PV:=Pl.Ex.size fu
 replace nP:=Un.as nP qg
 refine ⟨_,rfl,trivial,?_⟩
 refine Pl.aG trivial rfl ?_
 refine Pl.fZ (z:=.agg #[.bool false,.slice none 0 0]) (by kernel_rfl) rfl rfl rfl rfl (fun Y hY=>trivial) ?_
 intro N19 uY cZ atc xw
 have awV:=Pl.Cb.lt xw
 have yH:=Pl.Ex.size cZ
 replace xw:Pl.Cb uY N19 48 [.bool false,.slice none 0 0]:=xw
 refine Pl.fZ (z:=.agg #[.bool false,.slice none 0 0]) (by kernel_rfl) rfl rfl rfl rfl (fun Y hY=>trivial) ?_
 intro N20 BU dw Yf lX
 have afx:=Pl.Cb.lt lX
 have xR:=Pl.Ex.size dw
 replace lX:Pl.Cb BU N20 48 [.bool false,.slice none 0 0]:=lX
 by_cases c21:(g:Int)=0
 · refine Pl.aG trivial rfl ?_
   refine Pl.eP (new:=[.bool (decide (u<0)),.slice A12 (limbs (Int.natAbs u)).length c13]) (Pl.Cb.ex xw dw) (by kernel_rfl) rfl (by simp [Value.oneCell']) rfl rfl rfl rfl rfl rfl (fun Y hY=>trivial) ?_
   intro w12 G7 Bd
   have fV:=Pl.Ex.xs (Pl.Ex.trans cZ dw) G7 (by omega)
   have Fw:=Pl.Xs.size G7
   have Be:=Pl.Cb.xs lX G7 (by simp;omega)
   refine Pl.eP (new:=[.bool (decide (v<0)),.slice A16 (limbs (Int.natAbs v)).length c17]) Be (by kernel_rfl) rfl (by simp [Value.oneCell']) rfl rfl rfl rfl rfl rfl (fun Y hY=>trivial) ?_
   intro IZ Ad LK
   have dh:=Pl.Ex.xs fV Ad (by omega)
   have Fx:=Pl.Xs.size Ad
   have LM:=Pl.Cb.xs Bd Ad (by simp;omega)
   refine Pl.aj ?_
   repeat refine Pl.ay ?_
   refine Pl.uQ (fun l' w'=>Pl.Ex IZ w'∧l'=[(4,.bool false),(5,.bool true),(6,v3),(7,v4),(8,.pointer (some ⟨N9,0,none⟩)),(9,v10),(13,.bool false)]) ?_ fun Q4=>?_
   · rintro _ Qf ⟨bZ,rfl⟩
     have FK:=Pl.Ex.size bZ
     repeat refine Pl.ay ?_
     refine Pl.ak (by kernel_rfl) ?_
     refine Pl.aG trivial rfl ?_
     refine Pl.ng (v:=.bool true) trivial rfl rfl rfl rfl rfl (fun X=>rfl) ?_
     refine Pl.aj ?_
     repeat refine Pl.ay ?_
     refine Pl.cK rfl ?_
     repeat refine Pl.ay ?_
     refine Pl.ak (by kernel_rfl) ?_
     refine Pl.aG trivial rfl ?_
     obtain ⟨A23,c24,rfl⟩:=Un.Xf (Un.below nP (Pl.Ex.trans dh bZ))
     refine Pl.pY Tryz.underlying22 trivial rfl rfl rfl rfl rfl ?_
     have anC:((limbs g).length)=0:=iU.2 (by omega)
     refine Pl.bV (v:=.bool true) (fun X=>Pl.gL (Pl.e_t (by omega)) X) trivial rfl rfl rfl rfl rfl rfl ?_
     refine Pl.aG trivial rfl ?_
     refine Pl.aj ?_
     repeat refine Pl.ay ?_
     exact Pl.bI rfl rfl  (⟨rfl,(Pl.Ex.trans hE1 (Pl.Ex.trans hE2 (Pl.Ex.trans bJ (Pl.Ex.trans bX (Pl.Ex.trans bE (Pl.Ex.trans bu (Pl.Ex.trans dL (Pl.Ex.trans fu (Pl.Ex.trans dh bZ)))))))))⟩)
   · repeat refine Pl.ay ?_
     refine Pl.j6 (S:=fun X=>Pl.Ex IZ X) fo (Pl.Ex.trans (Pl.Ex.refl _) (Pl.Ex.drew _)) ?_
     have bZ:=Pl.Ex.drew IZ
     generalize IZ.drew=Qf at *
     have FK:=Pl.Ex.size bZ
     intro qF
     refine Pl.aM [(true,0,0),(true,1,1)] 3 8 Pl.aB (by kernel_rfl) (by kernel_rfl) (by kernel_rfl) ?_
     refine Pl.D6 (part:=[.bool (decide (z<0)),.slice A6 (limbs (Int.natAbs z)).length c7]) (fun X hX=>Pl.Cb.ex (Pl.Cb.ex G6 (Pl.Ex.trans fu dh)) hX) rfl Tryz.underlying48 rfl (by kernel_rfl) qF rfl rfl rfl rfl rfl ?_
     refine Pl.aG qF rfl ?_
     refine Pl.aj ?_
     refine Pl.bS [2,7] 7 (by kernel_rfl) (by kernel_rfl) (by kernel_rfl) (Pl.aC ?_ (Pl.aC ?_ Pl.aR))
     · refine Pl.az rfl rfl rfl rfl rfl (fun u X=>Pl.enters Tryz.func35 (by kernel_rfl) rfl u X) ?_
       refine Calls.mono (jW _ _ g (Un.below nP (Pl.Ex.trans dh bZ))) ?_
       rintro e Ph ⟨v23,rfl,K8,bO⟩
       obtain ⟨A24,c25,rfl,u26⟩:=id K8
       have Co:=Pl.Ex.size bO
       have mR:=Pl.Ex.trans qF bO
       refine ⟨_,rfl,mR,?_⟩
       refine Pl.aj ?_
       refine Pl.bS [3,7] 6 (by kernel_rfl) (by kernel_rfl) (by kernel_rfl) (Pl.aC ?_ (Pl.aC ?_ Pl.aR))
       · refine Pl.az rfl rfl rfl rfl rfl (fun u X=>Pl.enters Tryz.func34 (by kernel_rfl) rfl u X) ?_
         refine Calls.mono (pQ _ _ _ z (g:Int) (Zn.below hv5 (Pl.Ex.trans dL (Pl.Ex.trans fu (Pl.Ex.trans dh (Pl.Ex.trans bZ bO))))) K8 (Sz.le lz (by decide)) (Sz.le (Sn.sz lg) (by decide)) (.inl c21)) ?_
         rintro e w16 ⟨rfl,bH⟩
         have xU:=Pl.Ex.size bH
         have kC:=Pl.Ex.trans mR bH
         refine ⟨_,rfl,kC,?_⟩
         refine Pl.aj ?_
         refine Pl.aM [(true,4,15),(true,5,31),(true,6,63),(false,7,127),(false,8,255),(true,9,511)] 1023 0 Pl.aB (by kernel_rfl) (by kernel_rfl) (by kernel_rfl) ?_
         refine Pl.aG kC rfl ?_
         refine Pl.fZ (z:=.agg #[.bool false,.slice none 0 0]) (by kernel_rfl) rfl rfl rfl rfl (fun Y hY=>Pl.Ex.trans kC hY) ?_
         intro N27 KZ bC aip pI
         have anD:=Pl.Cb.lt pI
         have yM:=Pl.Ex.size bC
         replace pI:Pl.Cb KZ N27 48 [.bool false,.slice none 0 0]:=pI
         have iG:=Pl.Ex.trans kC bC
         refine Pl.eP (new:=[.bool false,.slice none 0 0]) pI (by kernel_rfl) rfl (by simp [Value.oneCell']) rfl rfl rfl rfl rfl rfl (fun Y hY=>Pl.Ex.xs iG hY (by omega)) ?_
         intro Nj iV aeb
         have bQ:=Pl.Ex.xs bC iV (by omega)
         have xV:=Pl.Xs.size iV
         have mU:=Pl.Ex.xs iG iV (by omega)
         refine Pl.aG mU rfl ?_
         refine Pl.aj ?_
         refine Pl.uT (by kernel_rfl) ?_
         refine Pl.eF [(4,.bool false),(5,.bool true),(6,v3),(7,v4),(8,.pointer (some ⟨N9,0,none⟩)),(9,v10),(13,.bool false)] (Pl.aa rfl (Pl.aa rfl (Pl.aa rfl (Pl.aa rfl (Pl.aa rfl (Pl.aa rfl (Pl.aa rfl Pl.aI))))))) ?_
         exact Q4 _ _ ⟨(Pl.Ex.trans bZ (Pl.Ex.trans bO (Pl.Ex.trans bH bQ))),rfl⟩
       · refine Pl.fZ (z:=.agg #[.bool false,.slice none 0 0]) (by kernel_rfl) rfl rfl rfl rfl (fun Y hY=>Pl.Ex.trans mR hY) ?_
         intro N27 w16 bH aip pI
         have anD:=Pl.Cb.lt pI
         have xU:=Pl.Ex.size bH
         replace pI:Pl.Cb w16 N27 48 [.bool false,.slice none 0 0]:=pI
         have kC:=Pl.Ex.trans mR bH
         refine Pl.aj ?_
         refine Pl.aM [(false,3,135),(true,4,143),(true,5,159),(true,6,191),(false,8,255),(true,9,511)] 1023 0 Pl.aB (by kernel_rfl) (by kernel_rfl) (by kernel_rfl) ?_
         refine Pl.az rfl rfl rfl rfl rfl (fun u X=>Pl.enters Tryz.func34 (by kernel_rfl) rfl u X) ?_
         refine Calls.mono (pQ _ _ _ z (g:Int) (Zn.below hv5 (Pl.Ex.trans dL (Pl.Ex.trans fu (Pl.Ex.trans dh (Pl.Ex.trans bZ (Pl.Ex.trans bO bH)))))) (Zn.below K8 bH) (Sz.le lz (by decide)) (Sz.le (Sn.sz lg) (by decide)) (.inl c21)) ?_
         rintro e KZ ⟨rfl,bC⟩
         have yM:=Pl.Ex.size bC
         have iG:=Pl.Ex.trans kC bC
         refine ⟨_,rfl,iG,?_⟩
         refine Pl.aG iG rfl ?_
         refine Pl.eP (new:=[.bool false,.slice none 0 0]) (Pl.Cb.ex pI bC) (by kernel_rfl) rfl (by simp [Value.oneCell']) rfl rfl rfl rfl rfl rfl (fun Y hY=>Pl.Ex.xs iG hY (by omega)) ?_
         intro Nj iV aeb
         have bQ:=Pl.Ex.xs (Pl.Ex.trans bH bC) iV (by omega)
         have xV:=Pl.Xs.size iV
         have mU:=Pl.Ex.xs iG iV (by omega)
         refine Pl.aG mU rfl ?_
         refine Pl.aj ?_
         refine Pl.uT (by kernel_rfl) ?_
         refine Pl.eF [(4,.bool false),(5,.bool true),(6,v3),(7,v4),(8,.pointer (some ⟨N9,0,none⟩)),(9,v10),(13,.bool false)] (Pl.aa rfl (Pl.aa rfl (Pl.aa rfl (Pl.aa rfl (Pl.aa rfl (Pl.aa rfl (Pl.aa rfl Pl.aI))))))) ?_
         exact Q4 _ _ ⟨(Pl.Ex.trans bZ (Pl.Ex.trans bO bQ)),rfl⟩
     · refine Pl.fZ (z:=.agg #[.bool false,.slice none 0 0]) (by kernel_rfl) rfl rfl rfl rfl (fun Y hY=>Pl.Ex.trans qF hY) ?_
       intro N23 Ph bO ate xx
       have awW:=Pl.Cb.lt xx
       have Co:=Pl.Ex.size bO
       replace xx:Pl.Cb Ph N23 48 [.bool false,.slice none 0 0]:=xx
       have mR:=Pl.Ex.trans qF bO
       refine Pl.aj ?_
       refine Pl.aM [(false,2,131),(false,3,135),(true,4,143),(true,5,159),(true,6,191),(false,8,255),(true,9,511)] 1023 0 Pl.aB (by kernel_rfl) (by kernel_rfl) (by kernel_rfl) ?_
       refine Pl.az rfl rfl rfl rfl rfl (fun u X=>Pl.enters Tryz.func35 (by kernel_rfl) rfl u X) ?_
       refine Calls.mono (jW _ _ g (Un.below nP (Pl.Ex.trans dh (Pl.Ex.trans bZ bO)))) ?_
       rintro e w16 ⟨v24,rfl,hv24,bH⟩
       obtain ⟨A25,c26,rfl,u27⟩:=id hv24
       have xU:=Pl.Ex.size bH
       have kC:=Pl.Ex.trans mR bH
       refine ⟨_,rfl,kC,?_⟩
       refine Pl.az rfl rfl rfl rfl rfl (fun u X=>Pl.enters Tryz.func34 (by kernel_rfl) rfl u X) ?_
       refine Calls.mono (pQ _ _ _ z (g:Int) (Zn.below hv5 (Pl.Ex.trans dL (Pl.Ex.trans fu (Pl.Ex.trans dh (Pl.Ex.trans bZ (Pl.Ex.trans bO bH)))))) hv24 (Sz.le lz (by decide)) (Sz.le (Sn.sz lg) (by decide)) (.inl c21)) ?_
       rintro e KZ ⟨rfl,bC⟩
       have yM:=Pl.Ex.size bC
       have iG:=Pl.Ex.trans kC bC
       refine ⟨_,rfl,iG,?_⟩
       refine Pl.aG iG rfl ?_
       refine Pl.eP (new:=[.bool false,.slice none 0 0]) (Pl.Cb.ex xx (Pl.Ex.trans bH bC)) (by kernel_rfl) rfl (by simp [Value.oneCell']) rfl rfl rfl rfl rfl rfl (fun Y hY=>Pl.Ex.xs iG hY (by omega)) ?_
       intro Nj iV ap'
       have bQ:=Pl.Ex.xs (Pl.Ex.trans bO (Pl.Ex.trans bH bC)) iV (by omega)
       have xV:=Pl.Xs.size iV
       have mU:=Pl.Ex.xs iG iV (by omega)
       have k28:=Un.xs (Un.below u27 bC) iV (Pl.Cb.ex xx (Pl.Ex.trans bH bC)) (by simp)
       have k29:=Zn.xs (Zn.below hv24 bC) iV (Pl.Cb.ex xx (Pl.Ex.trans bH bC)) (by simp)
       refine Pl.aG mU rfl ?_
       refine Pl.aj ?_
       refine Pl.uT (by kernel_rfl) ?_
       refine Pl.eF [(4,.bool false),(5,.bool true),(6,v3),(7,v4),(8,.pointer (some ⟨N9,0,none⟩)),(9,v10),(13,.bool false)] (Pl.aa rfl (Pl.aa rfl (Pl.aa rfl (Pl.aa rfl (Pl.aa rfl (Pl.aa rfl (Pl.aa rfl Pl.aI))))))) ?_
       exact Q4 _ _ ⟨(Pl.Ex.trans bZ bQ),rfl⟩
 · by_cases c22:z%(g:Int)=0
   · refine Pl.aG trivial rfl ?_
     refine Pl.eP (new:=[.bool (decide (u<0)),.slice A12 (limbs (Int.natAbs u)).length c13]) (Pl.Cb.ex xw dw) (by kernel_rfl) rfl (by simp [Value.oneCell']) rfl rfl rfl rfl rfl rfl (fun Y hY=>trivial) ?_
     intro w12 G7 Bd
     have fV:=Pl.Ex.xs (Pl.Ex.trans cZ dw) G7 (by omega)
     have Fw:=Pl.Xs.size G7
     have Be:=Pl.Cb.xs lX G7 (by simp;omega)
     refine Pl.eP (new:=[.bool (decide (v<0)),.slice A16 (limbs (Int.natAbs v)).length c17]) Be (by kernel_rfl) rfl (by simp [Value.oneCell']) rfl rfl rfl rfl rfl rfl (fun Y hY=>trivial) ?_
     intro IZ Ad LK
     have dh:=Pl.Ex.xs fV Ad (by omega)
     have Fx:=Pl.Xs.size Ad
     have LM:=Pl.Cb.xs Bd Ad (by simp;omega)
     refine Pl.aj ?_
     repeat refine Pl.ay ?_
     refine Pl.uQ (fun l' w'=>∃ (Nk:Nat) (Ak:Option Addr) (ck:Nat),Pl.Ex IZ w'∧(Pl.Cb w' Nk 48 [.bool (decide ((z/(g:Int))<0)),.slice Ak (limbs (Int.natAbs (z/(g:Int)))).length ck])∧(Zn w' (.agg #[.bool (decide ((z/(g:Int))<0)),.slice Ak (limbs (Int.natAbs (z/(g:Int)))).length ck]) (z/(g:Int)))∧(Un w' (.slice Ak (limbs (Int.natAbs (z/(g:Int)))).length ck) (Int.natAbs (z/(g:Int))))∧l'=[(4,.bool false),(5,.bool true),(6,v3),(7,v4),(8,.pointer (some ⟨N9,0,none⟩)),(9,v10),(10,.pointer (some ⟨N19,0,none⟩)),(11,.pointer (some ⟨N20,0,none⟩)),(12,.pointer (some ⟨Nk,0,none⟩)),(13,.bool true)]) ?_ fun zg=>?_
     · rintro _ Qf ⟨Nk,Ak,ck,bZ,kk,zk,uk,rfl⟩
       have FK:=Pl.Ex.size bZ
       repeat refine Pl.ay ?_
       refine Pl.ak (by kernel_rfl) ?_
       refine Pl.aG trivial rfl ?_
       refine Pl.ng (v:=.bool false) trivial rfl rfl rfl rfl rfl (fun X=>rfl) ?_
       refine Pl.aj ?_
       repeat refine Pl.ay ?_
       refine Pl.bn rfl ?_
       repeat refine Pl.ay ?_
       refine Pl.bM ?_
       repeat refine Pl.ay ?_
       refine Pl.uQ (fun l' w'=>∃ (Ns:Nat) (As:Option Addr) (cs:Nat),Pl.Ex Qf w'∧(Pl.Cb w' Ns 48 [.bool (decide (((((a:Int)*u)*(z/(g:Int)))+(((b:Int)*v)*(z/(g:Int))))<0)),.slice As (limbs (Int.natAbs ((((a:Int)*u)*(z/(g:Int)))+(((b:Int)*v)*(z/(g:Int)))))).length cs])∧(Zn w' (.agg #[.bool (decide (((((a:Int)*u)*(z/(g:Int)))+(((b:Int)*v)*(z/(g:Int))))<0)),.slice As (limbs (Int.natAbs ((((a:Int)*u)*(z/(g:Int)))+(((b:Int)*v)*(z/(g:Int)))))).length cs]) ((((a:Int)*u)*(z/(g:Int)))+(((b:Int)*v)*(z/(g:Int)))))∧(Un w' (.slice As (limbs (Int.natAbs ((((a:Int)*u)*(z/(g:Int)))+(((b:Int)*v)*(z/(g:Int)))))).length cs) (Int.natAbs ((((a:Int)*u)*(z/(g:Int)))+(((b:Int)*v)*(z/(g:Int))))))∧l'=[(5,.bool true),(8,.pointer (some ⟨N9,0,none⟩)),(14,.pointer (some ⟨Ns,0,none⟩))]) ?_ fun wC=>?_
       · rintro _ Ph ⟨Ns,As,cs,bO,ks,zs,us,rfl⟩
         have Co:=Pl.Ex.size bO
         repeat refine Pl.ay ?_
         refine Pl.ak (by kernel_rfl) ?_
         refine Pl.aG trivial rfl ?_
         refine Pl.F6 (part:=[.bool (decide (((((a:Int)*u)*(z/(g:Int)))+(((b:Int)*v)*(z/(g:Int))))<0)),.slice As (limbs (Int.natAbs ((((a:Int)*u)*(z/(g:Int)))+(((b:Int)*v)*(z/(g:Int)))))).length cs]) ks rfl Tryz.underlying48 rfl (by kernel_rfl) trivial rfl rfl rfl rfl rfl ?_
         refine Pl.F6 (part:=[.bool (decide (z<0)),.slice A6 (limbs (Int.natAbs z)).length c7]) (Pl.Cb.ex G6 (Pl.Ex.trans fu (Pl.Ex.trans dh (Pl.Ex.trans bZ bO)))) rfl Tryz.underlying48 rfl (by kernel_rfl) trivial rfl rfl rfl rfl rfl ?_
         refine Pl.az rfl rfl rfl rfl rfl (fun u X=>Pl.enters Tryz.func39 (by kernel_rfl) rfl u X) ?_
         refine Calls.mono (aik _ _ _ ((((a:Int)*u)*(z/(g:Int)))+(((b:Int)*v)*(z/(g:Int)))) z zs (Zn.below hv5 (Pl.Ex.trans dL (Pl.Ex.trans fu (Pl.Ex.trans dh (Pl.Ex.trans bZ bO))))) (Sz.le (Sz.add (Sz.mul (Sz.mul la.sz su (by decide):Sz ((a:Int)*u) 102) (Sz.div lz) (by decide):Sz _ 114) (Sz.mul (Sz.mul lb.sz sv (by decide):Sz ((b:Int)*v) 116) (Sz.div lz) (by decide):Sz _ 128) (by decide) (by decide):Sz _ 129) (by decide)) (Sz.le lz (by decide)) true (decide_eq_true (anx ata c22))) ?_
         rintro e w16 ⟨rfl,bH⟩
         have xU:=Pl.Ex.size bH
         refine ⟨_,rfl,trivial,?_⟩
         refine Pl.aG trivial rfl ?_
         refine Pl.aj ?_
         repeat refine Pl.ay ?_
         exact Pl.bI rfl rfl  (⟨rfl,(Pl.Ex.trans hE1 (Pl.Ex.trans hE2 (Pl.Ex.trans bJ (Pl.Ex.trans bX (Pl.Ex.trans bE (Pl.Ex.trans bu (Pl.Ex.trans dL (Pl.Ex.trans fu (Pl.Ex.trans dh (Pl.Ex.trans bZ (Pl.Ex.trans bO bH)))))))))))⟩)
       · repeat refine Pl.ay ?_
         refine Pl.j6 (S:=fun X=>Pl.Ex Qf X) fo (Pl.Ex.trans (Pl.Ex.refl _) (Pl.Ex.drew _)) ?_
         have bO:=Pl.Ex.drew Qf
         generalize Qf.drew=Ph at *
         have Co:=Pl.Ex.size bO
         intro mR
         refine Pl.aM [(true,0,0),(true,2,1),(true,4,5),(true,6,21),(true,8,85),(true,10,341)] 1365 9 Pl.aB (by kernel_rfl) (by kernel_rfl) (by kernel_rfl) ?_
         refine Pl.aG mR rfl ?_
         refine Pl.D6 (part:=[.bool (decide (u<0)),.slice A12 (limbs (Int.natAbs u)).length c13]) (fun X hX=>Pl.Cb.ex (Pl.Cb.ex LM bZ) hX) rfl Tryz.underlying48 rfl (by kernel_rfl) mR rfl rfl rfl rfl rfl ?_
         refine Pl.D6 (part:=[.bool (decide ((z/(g:Int))<0)),.slice Ak (limbs (Int.natAbs (z/(g:Int)))).length ck]) (fun X hX=>Pl.Cb.ex kk hX) rfl Tryz.underlying48 rfl (by kernel_rfl) mR rfl rfl rfl rfl rfl ?_
         refine Pl.aG mR rfl ?_
         refine Pl.D6 (part:=[.bool (decide (v<0)),.slice A16 (limbs (Int.natAbs v)).length c17]) (fun X hX=>Pl.Cb.ex (Pl.Cb.ex LK bZ) hX) rfl Tryz.underlying48 rfl (by kernel_rfl) mR rfl rfl rfl rfl rfl ?_
         refine Pl.D6 (part:=[.bool (decide ((z/(g:Int))<0)),.slice Ak (limbs (Int.natAbs (z/(g:Int)))).length ck]) (fun X hX=>Pl.Cb.ex kk hX) rfl Tryz.underlying48 rfl (by kernel_rfl) mR rfl rfl rfl rfl rfl ?_
         refine Pl.aj ?_
         refine Pl.bS [1,13] 8 (by kernel_rfl) (by kernel_rfl) (by kernel_rfl) (Pl.aC ?_ (Pl.aC ?_ Pl.aR))
         · refine Pl.az rfl rfl rfl rfl rfl (fun u X=>Pl.enters Tryz.func35 (by kernel_rfl) rfl u X) ?_
           refine Calls.mono (jW _ _ a (Un.below hv3 (Pl.Ex.trans bE (Pl.Ex.trans bu (Pl.Ex.trans dL (Pl.Ex.trans fu (Pl.Ex.trans dh (Pl.Ex.trans bZ bO)))))))) ?_
           rintro e w16 ⟨v25,rfl,hv25,bH⟩
           obtain ⟨A26,c27,rfl,u28⟩:=id hv25
           have xU:=Pl.Ex.size bH
           have kC:=Pl.Ex.trans mR bH
           refine ⟨_,rfl,kC,?_⟩
           refine Pl.aj ?_
           refine Pl.bS [3,13] 7 (by kernel_rfl) (by kernel_rfl) (by kernel_rfl) (Pl.aC ?_ (Pl.aC ?_ Pl.aR))
           · refine Pl.az rfl rfl rfl rfl rfl (fun u X=>Pl.enters Tryz.func38 (by kernel_rfl) rfl u X) ?_
             refine Calls.mono (lT _ _ _ (a:Int) u hv25 (Zn.below rO (Pl.Ex.trans dh (Pl.Ex.trans bZ (Pl.Ex.trans bO bH)))) (Sz.le (Sn.sz la) (by decide)) (Sz.le su (by decide)) _ rfl) ?_
             rintro e KZ ⟨v29,rfl,hv29,bC⟩
             obtain ⟨A30,c31,rfl,u32⟩:=id hv29
             have yM:=Pl.Ex.size bC
             have iG:=Pl.Ex.trans kC bC
             refine ⟨_,rfl,iG,?_⟩
             refine Pl.aj ?_
             refine Pl.bS [5,13] 6 (by kernel_rfl) (by kernel_rfl) (by kernel_rfl) (Pl.aC ?_ (Pl.aC ?_ Pl.aR))
             · refine Pl.az rfl rfl rfl rfl rfl (fun u X=>Pl.enters Tryz.func38 (by kernel_rfl) rfl u X) ?_
               refine Calls.mono (lT _ _ _ ((a:Int)*u) (z/(g:Int)) hv29 (Zn.below zk (Pl.Ex.trans bO (Pl.Ex.trans bH bC))) (Sz.le (Sz.mul (Sn.sz la) su (by decide):Sz ((a:Int)*u) 102) (by decide)) (Sz.le (Sz.div lz) (by decide)) _ rfl) ?_
               rintro e Nj ⟨v33,rfl,Oj,bQ⟩
               obtain ⟨A34,c35,rfl,u36⟩:=id Oj
               have xV:=Pl.Ex.size bQ
               have mU:=Pl.Ex.trans iG bQ
               refine ⟨_,rfl,mU,?_⟩
               refine Pl.aj ?_
               refine Pl.bS [7,13] 5 (by kernel_rfl) (by kernel_rfl) (by kernel_rfl) (Pl.aC ?_ (Pl.aC ?_ Pl.aR))
               · refine Pl.az rfl rfl rfl rfl rfl (fun u X=>Pl.enters Tryz.func35 (by kernel_rfl) rfl u X) ?_
                 refine Calls.mono (jW _ _ b (Un.below hv4 (Pl.Ex.trans bu (Pl.Ex.trans dL (Pl.Ex.trans fu (Pl.Ex.trans dh (Pl.Ex.trans bZ (Pl.Ex.trans bO (Pl.Ex.trans bH (Pl.Ex.trans bC bQ)))))))))) ?_
                 rintro e Yc ⟨v37,rfl,aiq,bU⟩
                 obtain ⟨A38,c39,rfl,u40⟩:=id aiq
                 have I4:=Pl.Ex.size bU
                 have zh:=Pl.Ex.trans mU bU
                 refine ⟨_,rfl,zh,?_⟩
                 refine Pl.aj ?_
                 refine Pl.bS [9,13] 4 (by kernel_rfl) (by kernel_rfl) (by kernel_rfl) (Pl.aC ?_ (Pl.aC ?_ Pl.aR))
                 · refine Pl.az rfl rfl rfl rfl rfl (fun u X=>Pl.enters Tryz.func38 (by kernel_rfl) rfl u X) ?_
                   refine Calls.mono (lT _ _ _ (b:Int) v aiq (Zn.below Es (Pl.Ex.trans dh (Pl.Ex.trans bZ (Pl.Ex.trans bO (Pl.Ex.trans bH (Pl.Ex.trans bC (Pl.Ex.trans bQ bU))))))) (Sz.le (Sn.sz lb) (by decide)) (Sz.le sv (by decide)) _ rfl) ?_
                   rintro e w20 ⟨v41,rfl,air,hE20⟩
                   obtain ⟨A42,c43,rfl,u44⟩:=id air
                   have Nq:=Pl.Ex.size hE20
                   have uW:=Pl.Ex.trans zh hE20
                   refine ⟨_,rfl,uW,?_⟩
                   refine Pl.aj ?_
                   refine Pl.bS [11,13] 3 (by kernel_rfl) (by kernel_rfl) (by kernel_rfl) (Pl.aC ?_ (Pl.aC ?_ Pl.aR))
                   · refine Pl.az rfl rfl rfl rfl rfl (fun u X=>Pl.enters Tryz.func38 (by kernel_rfl) rfl u X) ?_
                     refine Calls.mono (lT _ _ _ ((b:Int)*v) (z/(g:Int)) air (Zn.below zk (Pl.Ex.trans bO (Pl.Ex.trans bH (Pl.Ex.trans bC (Pl.Ex.trans bQ (Pl.Ex.trans bU hE20)))))) (Sz.le (Sz.mul (Sn.sz lb) sv (by decide):Sz ((b:Int)*v) 116) (by decide)) (Sz.le (Sz.div lz) (by decide)) _ rfl) ?_
                     rintro e w21 ⟨v45,rfl,ais,bF⟩
                     obtain ⟨A46,c47,rfl,u48⟩:=id ais
                     have K6:=Pl.Ex.size bF
                     have rT:=Pl.Ex.trans uW bF
                     refine ⟨_,rfl,rT,?_⟩
                     refine Pl.aj ?_
                     refine Pl.bS [12,13] 2 (by kernel_rfl) (by kernel_rfl) (by kernel_rfl) (Pl.aC ?_ (Pl.aC ?_ Pl.aR))
                     · refine Pl.az rfl rfl rfl rfl rfl (fun u X=>Pl.enters Tryz.func37 (by kernel_rfl) rfl u X) ?_
                       refine Calls.mono (CB _ _ _ (((a:Int)*u)*(z/(g:Int))) (((b:Int)*v)*(z/(g:Int))) (Zn.below Oj (Pl.Ex.trans bU (Pl.Ex.trans hE20 bF))) ais (Sz.le (Sz.mul (Sz.mul (Sn.sz la) su (by decide):Sz ((a:Int)*u) 102) (Sz.div lz) (by decide):Sz (((a:Int)*u)*(z/(g:Int))) 114) (by decide)) (Sz.le (Sz.mul (Sz.mul (Sn.sz lb) sv (by decide):Sz ((b:Int)*v) 116) (Sz.div lz) (by decide):Sz (((b:Int)*v)*(z/(g:Int))) 128) (by decide)) _ rfl) ?_
                       rintro e Ye ⟨v49,rfl,anE,bg⟩
                       obtain ⟨A50,c51,rfl,u52⟩:=id anE
                       have I5:=Pl.Ex.size bg
                       have qG:=Pl.Ex.trans rT bg
                       refine ⟨_,rfl,qG,?_⟩
                       refine Pl.aj ?_
                       refine Pl.aM [(false,13,8191),(false,14,16383)] 32767 0 Pl.aB (by kernel_rfl) (by kernel_rfl) (by kernel_rfl) ?_
                       refine Pl.fZ (z:=.agg #[.bool false,.slice none 0 0]) (by kernel_rfl) rfl rfl rfl rfl (fun Y hY=>Pl.Ex.trans qG hY) ?_
                       intro N53 Yg aY atg ER
                       have aw2:=Pl.Cb.lt ER
                       have I6:=Pl.Ex.size aY
                       replace ER:Pl.Cb Yg N53 48 [.bool false,.slice none 0 0]:=ER
                       have mW:=Pl.Ex.trans qG aY
                       refine Pl.eP (new:=[.bool (decide (((((a:Int)*u)*(z/(g:Int)))+(((b:Int)*v)*(z/(g:Int))))<0)),.slice A50 (limbs (Int.natAbs ((((a:Int)*u)*(z/(g:Int)))+(((b:Int)*v)*(z/(g:Int)))))).length c51]) ER (by kernel_rfl) rfl (by simp [Value.oneCell']) rfl rfl rfl rfl rfl rfl (fun Y hY=>Pl.Ex.xs mW hY (by omega)) ?_
                       intro w24 dQ aec
                       have mg:=Pl.Ex.xs aY dQ (by omega)
                       have I7:=Pl.Xs.size dQ
                       have Q5:=Pl.Ex.xs mW dQ (by omega)
                       refine Pl.aj ?_
                       refine Pl.uT (by kernel_rfl) ?_
                       refine Pl.eF [(5,.bool true),(8,.pointer (some ⟨N9,0,none⟩)),(14,.pointer (some ⟨N53,0,none⟩))] (Pl.aa rfl (Pl.aa rfl (Pl.aa rfl Pl.aI))) ?_
                       exact wC _ _ ⟨N53,A50,c51,(Pl.Ex.trans bO (Pl.Ex.trans bH (Pl.Ex.trans bC (Pl.Ex.trans bQ (Pl.Ex.trans bU (Pl.Ex.trans hE20 (Pl.Ex.trans bF (Pl.Ex.trans bg mg)))))))),aec,(Zn.below anE mg),(Un.below u52 mg),rfl⟩
                     · refine Pl.fZ (z:=.agg #[.bool false,.slice none 0 0]) (by kernel_rfl) rfl rfl rfl rfl (fun Y hY=>Pl.Ex.trans rT hY) ?_
                       intro N49 Ye bg ati xy
                       have aw3:=Pl.Cb.lt xy
                       have I5:=Pl.Ex.size bg
                       replace xy:Pl.Cb Ye N49 48 [.bool false,.slice none 0 0]:=xy
                       have qG:=Pl.Ex.trans rT bg
                       refine Pl.aj ?_
                       refine Pl.aM [(false,12,12287),(false,14,16383)] 32767 0 Pl.aB (by kernel_rfl) (by kernel_rfl) (by kernel_rfl) ?_
                       refine Pl.az rfl rfl rfl rfl rfl (fun u X=>Pl.enters Tryz.func37 (by kernel_rfl) rfl u X) ?_
                       refine Calls.mono (CB _ _ _ (((a:Int)*u)*(z/(g:Int))) (((b:Int)*v)*(z/(g:Int))) (Zn.below Oj (Pl.Ex.trans bU (Pl.Ex.trans hE20 (Pl.Ex.trans bF bg)))) (Zn.below ais bg) (Sz.le (Sz.mul (Sz.mul (Sn.sz la) su (by decide):Sz ((a:Int)*u) 102) (Sz.div lz) (by decide):Sz (((a:Int)*u)*(z/(g:Int))) 114) (by decide)) (Sz.le (Sz.mul (Sz.mul (Sn.sz lb) sv (by decide):Sz ((b:Int)*v) 116) (Sz.div lz) (by decide):Sz (((b:Int)*v)*(z/(g:Int))) 128) (by decide)) _ rfl) ?_
                       rintro e Yg ⟨v50,rfl,tL,aY⟩
                       obtain ⟨JY,JZ,rfl,u53⟩:=id tL
                       have I6:=Pl.Ex.size aY
                       have mW:=Pl.Ex.trans qG aY
                       refine ⟨_,rfl,mW,?_⟩
                       refine Pl.eP (new:=[.bool (decide (((((a:Int)*u)*(z/(g:Int)))+(((b:Int)*v)*(z/(g:Int))))<0)),.slice JY (limbs (Int.natAbs ((((a:Int)*u)*(z/(g:Int)))+(((b:Int)*v)*(z/(g:Int)))))).length JZ]) (Pl.Cb.ex xy aY) (by kernel_rfl) rfl (by simp [Value.oneCell']) rfl rfl rfl rfl rfl rfl (fun Y hY=>Pl.Ex.xs mW hY (by omega)) ?_
                       intro w24 dQ aed
                       have mg:=Pl.Ex.xs (Pl.Ex.trans bg aY) dQ (by omega)
                       have I7:=Pl.Xs.size dQ
                       have Q5:=Pl.Ex.xs mW dQ (by omega)
                       have k54:=Un.xs u53 dQ (Pl.Cb.ex xy aY) (by simp)
                       have k55:=Zn.xs tL dQ (Pl.Cb.ex xy aY) (by simp)
                       refine Pl.aj ?_
                       refine Pl.uT (by kernel_rfl) ?_
                       refine Pl.eF [(5,.bool true),(8,.pointer (some ⟨N9,0,none⟩)),(14,.pointer (some ⟨N49,0,none⟩))] (Pl.aa rfl (Pl.aa rfl (Pl.aa rfl Pl.aI))) ?_
                       exact wC _ _ ⟨N49,JY,JZ,(Pl.Ex.trans bO (Pl.Ex.trans bH (Pl.Ex.trans bC (Pl.Ex.trans bQ (Pl.Ex.trans bU (Pl.Ex.trans hE20 (Pl.Ex.trans bF mg))))))),aed,k55,k54,rfl⟩
                   · refine Pl.fZ (z:=.agg #[.bool false,.slice none 0 0]) (by kernel_rfl) rfl rfl rfl rfl (fun Y hY=>Pl.Ex.trans uW hY) ?_
                     intro N45 w21 bF atl rH
                     have aw4:=Pl.Cb.lt rH
                     have K6:=Pl.Ex.size bF
                     replace rH:Pl.Cb w21 N45 48 [.bool false,.slice none 0 0]:=rH
                     have rT:=Pl.Ex.trans uW bF
                     refine Pl.aj ?_
                     refine Pl.aM [(false,11,10239),(false,12,12287),(false,14,16383)] 32767 0 Pl.aB (by kernel_rfl) (by kernel_rfl) (by kernel_rfl) ?_
                     refine Pl.az rfl rfl rfl rfl rfl (fun u X=>Pl.enters Tryz.func38 (by kernel_rfl) rfl u X) ?_
                     refine Calls.mono (lT _ _ _ ((b:Int)*v) (z/(g:Int)) (Zn.below air bF) (Zn.below zk (Pl.Ex.trans bO (Pl.Ex.trans bH (Pl.Ex.trans bC (Pl.Ex.trans bQ (Pl.Ex.trans bU (Pl.Ex.trans hE20 bF))))))) (Sz.le (Sz.mul (Sn.sz lb) sv (by decide):Sz ((b:Int)*v) 116) (by decide)) (Sz.le (Sz.div lz) (by decide)) _ rfl) ?_
                     rintro e Ye ⟨v46,rfl,qH,bg⟩
                     obtain ⟨A47,c48,rfl,u49⟩:=id qH
                     have I5:=Pl.Ex.size bg
                     have qG:=Pl.Ex.trans rT bg
                     refine ⟨_,rfl,qG,?_⟩
                     refine Pl.az rfl rfl rfl rfl rfl (fun u X=>Pl.enters Tryz.func37 (by kernel_rfl) rfl u X) ?_
                     refine Calls.mono (CB _ _ _ (((a:Int)*u)*(z/(g:Int))) (((b:Int)*v)*(z/(g:Int))) (Zn.below Oj (Pl.Ex.trans bU (Pl.Ex.trans hE20 (Pl.Ex.trans bF bg)))) qH (Sz.le (Sz.mul (Sz.mul (Sn.sz la) su (by decide):Sz ((a:Int)*u) 102) (Sz.div lz) (by decide):Sz (((a:Int)*u)*(z/(g:Int))) 114) (by decide)) (Sz.le (Sz.mul (Sz.mul (Sn.sz lb) sv (by decide):Sz ((b:Int)*v) 116) (Sz.div lz) (by decide):Sz (((b:Int)*v)*(z/(g:Int))) 128) (by decide)) _ rfl) ?_
                     rintro e Yg ⟨v50,rfl,tL,aY⟩
                     obtain ⟨JY,JZ,rfl,u53⟩:=id tL
                     have I6:=Pl.Ex.size aY
                     have mW:=Pl.Ex.trans qG aY
                     refine ⟨_,rfl,mW,?_⟩
                     refine Pl.eP (new:=[.bool (decide (((((a:Int)*u)*(z/(g:Int)))+(((b:Int)*v)*(z/(g:Int))))<0)),.slice JY (limbs (Int.natAbs ((((a:Int)*u)*(z/(g:Int)))+(((b:Int)*v)*(z/(g:Int)))))).length JZ]) (Pl.Cb.ex rH (Pl.Ex.trans bg aY)) (by kernel_rfl) rfl (by simp [Value.oneCell']) rfl rfl rfl rfl rfl rfl (fun Y hY=>Pl.Ex.xs mW hY (by omega)) ?_
                     intro w24 dQ aee
                     have mg:=Pl.Ex.xs (Pl.Ex.trans bF (Pl.Ex.trans bg aY)) dQ (by omega)
                     have I7:=Pl.Xs.size dQ
                     have Q5:=Pl.Ex.xs mW dQ (by omega)
                     have k54:=Un.xs (Un.below u49 aY) dQ (Pl.Cb.ex rH (Pl.Ex.trans bg aY)) (by simp)
                     have k55:=Zn.xs (Zn.below qH aY) dQ (Pl.Cb.ex rH (Pl.Ex.trans bg aY)) (by simp)
                     have k56:=Un.xs u53 dQ (Pl.Cb.ex rH (Pl.Ex.trans bg aY)) (by simp)
                     have k57:=Zn.xs tL dQ (Pl.Cb.ex rH (Pl.Ex.trans bg aY)) (by simp)
                     refine Pl.aj ?_
                     refine Pl.uT (by kernel_rfl) ?_
                     refine Pl.eF [(5,.bool true),(8,.pointer (some ⟨N9,0,none⟩)),(14,.pointer (some ⟨N45,0,none⟩))] (Pl.aa rfl (Pl.aa rfl (Pl.aa rfl Pl.aI))) ?_
                     exact wC _ _ ⟨N45,JY,JZ,(Pl.Ex.trans bO (Pl.Ex.trans bH (Pl.Ex.trans bC (Pl.Ex.trans bQ (Pl.Ex.trans bU (Pl.Ex.trans hE20 mg)))))),aee,k57,k56,rfl⟩
                 · refine Pl.fZ (z:=.agg #[.bool false,.slice none 0 0]) (by kernel_rfl) rfl rfl rfl rfl (fun Y hY=>Pl.Ex.trans zh hY) ?_
                   intro N41 w20 hE20 atn om
                   have aw5:=Pl.Cb.lt om
                   have Nq:=Pl.Ex.size hE20
                   replace om:Pl.Cb w20 N41 48 [.bool false,.slice none 0 0]:=om
                   have uW:=Pl.Ex.trans zh hE20
                   refine Pl.aj ?_
                   refine Pl.aM [(false,9,9727),(false,11,10239),(false,12,12287),(false,14,16383)] 32767 0 Pl.aB (by kernel_rfl) (by kernel_rfl) (by kernel_rfl) ?_
                   refine Pl.az rfl rfl rfl rfl rfl (fun u X=>Pl.enters Tryz.func38 (by kernel_rfl) rfl u X) ?_
                   refine Calls.mono (lT _ _ _ (b:Int) v (Zn.below aiq hE20) (Zn.below Es (Pl.Ex.trans dh (Pl.Ex.trans bZ (Pl.Ex.trans bO (Pl.Ex.trans bH (Pl.Ex.trans bC (Pl.Ex.trans bQ (Pl.Ex.trans bU hE20)))))))) (Sz.le (Sn.sz lb) (by decide)) (Sz.le sv (by decide)) _ rfl) ?_
                   rintro e w21 ⟨v42,rfl,uH,bF⟩
                   obtain ⟨A43,c44,rfl,u45⟩:=id uH
                   have K6:=Pl.Ex.size bF
                   have rT:=Pl.Ex.trans uW bF
                   refine ⟨_,rfl,rT,?_⟩
                   refine Pl.az rfl rfl rfl rfl rfl (fun u X=>Pl.enters Tryz.func38 (by kernel_rfl) rfl u X) ?_
                   refine Calls.mono (lT _ _ _ ((b:Int)*v) (z/(g:Int)) uH (Zn.below zk (Pl.Ex.trans bO (Pl.Ex.trans bH (Pl.Ex.trans bC (Pl.Ex.trans bQ (Pl.Ex.trans bU (Pl.Ex.trans hE20 bF))))))) (Sz.le (Sz.mul (Sn.sz lb) sv (by decide):Sz ((b:Int)*v) 116) (by decide)) (Sz.le (Sz.div lz) (by decide)) _ rfl) ?_
                   rintro e Ye ⟨v46,rfl,qH,bg⟩
                   obtain ⟨A47,c48,rfl,u49⟩:=id qH
                   have I5:=Pl.Ex.size bg
                   have qG:=Pl.Ex.trans rT bg
                   refine ⟨_,rfl,qG,?_⟩
                   refine Pl.az rfl rfl rfl rfl rfl (fun u X=>Pl.enters Tryz.func37 (by kernel_rfl) rfl u X) ?_
                   refine Calls.mono (CB _ _ _ (((a:Int)*u)*(z/(g:Int))) (((b:Int)*v)*(z/(g:Int))) (Zn.below Oj (Pl.Ex.trans bU (Pl.Ex.trans hE20 (Pl.Ex.trans bF bg)))) qH (Sz.le (Sz.mul (Sz.mul (Sn.sz la) su (by decide):Sz ((a:Int)*u) 102) (Sz.div lz) (by decide):Sz (((a:Int)*u)*(z/(g:Int))) 114) (by decide)) (Sz.le (Sz.mul (Sz.mul (Sn.sz lb) sv (by decide):Sz ((b:Int)*v) 116) (Sz.div lz) (by decide):Sz (((b:Int)*v)*(z/(g:Int))) 128) (by decide)) _ rfl) ?_
                   rintro e Yg ⟨v50,rfl,tL,aY⟩
                   obtain ⟨JY,JZ,rfl,u53⟩:=id tL
                   have I6:=Pl.Ex.size aY
                   have mW:=Pl.Ex.trans qG aY
                   refine ⟨_,rfl,mW,?_⟩
                   refine Pl.eP (new:=[.bool (decide (((((a:Int)*u)*(z/(g:Int)))+(((b:Int)*v)*(z/(g:Int))))<0)),.slice JY (limbs (Int.natAbs ((((a:Int)*u)*(z/(g:Int)))+(((b:Int)*v)*(z/(g:Int)))))).length JZ]) (Pl.Cb.ex om (Pl.Ex.trans bF (Pl.Ex.trans bg aY))) (by kernel_rfl) rfl (by simp [Value.oneCell']) rfl rfl rfl rfl rfl rfl (fun Y hY=>Pl.Ex.xs mW hY (by omega)) ?_
                   intro w24 dQ aef
                   have mg:=Pl.Ex.xs (Pl.Ex.trans hE20 (Pl.Ex.trans bF (Pl.Ex.trans bg aY))) dQ (by omega)
                   have I7:=Pl.Xs.size dQ
                   have Q5:=Pl.Ex.xs mW dQ (by omega)
                   have k54:=Un.xs (Un.below u45 (Pl.Ex.trans bg aY)) dQ (Pl.Cb.ex om (Pl.Ex.trans bF (Pl.Ex.trans bg aY))) (by simp)
                   have k55:=Zn.xs (Zn.below uH (Pl.Ex.trans bg aY)) dQ (Pl.Cb.ex om (Pl.Ex.trans bF (Pl.Ex.trans bg aY))) (by simp)
                   have k56:=Un.xs (Un.below u49 aY) dQ (Pl.Cb.ex om (Pl.Ex.trans bF (Pl.Ex.trans bg aY))) (by simp)
                   have k57:=Zn.xs (Zn.below qH aY) dQ (Pl.Cb.ex om (Pl.Ex.trans bF (Pl.Ex.trans bg aY))) (by simp)
                   have k58:=Un.xs u53 dQ (Pl.Cb.ex om (Pl.Ex.trans bF (Pl.Ex.trans bg aY))) (by simp)
                   have VW:=Zn.xs tL dQ (Pl.Cb.ex om (Pl.Ex.trans bF (Pl.Ex.trans bg aY))) (by simp)
                   refine Pl.aj ?_
                   refine Pl.uT (by kernel_rfl) ?_
                   refine Pl.eF [(5,.bool true),(8,.pointer (some ⟨N9,0,none⟩)),(14,.pointer (some ⟨N41,0,none⟩))] (Pl.aa rfl (Pl.aa rfl (Pl.aa rfl Pl.aI))) ?_
                   exact wC _ _ ⟨N41,JY,JZ,(Pl.Ex.trans bO (Pl.Ex.trans bH (Pl.Ex.trans bC (Pl.Ex.trans bQ (Pl.Ex.trans bU mg))))),aef,VW,k58,rfl⟩
               · refine Pl.fZ (z:=.agg #[.bool false,.slice none 0 0]) (by kernel_rfl) rfl rfl rfl rfl (fun Y hY=>Pl.Ex.trans mU hY) ?_
                 intro N37 Yc bU atp lY
                 have aw6:=Pl.Cb.lt lY
                 have I4:=Pl.Ex.size bU
                 replace lY:Pl.Cb Yc N37 48 [.bool false,.slice none 0 0]:=lY
                 have zh:=Pl.Ex.trans mU bU
                 refine Pl.aj ?_
                 refine Pl.aM [(false,7,9599),(false,9,9727),(false,11,10239),(false,12,12287),(false,14,16383)] 32767 0 Pl.aB (by kernel_rfl) (by kernel_rfl) (by kernel_rfl) ?_
                 refine Pl.az rfl rfl rfl rfl rfl (fun u X=>Pl.enters Tryz.func35 (by kernel_rfl) rfl u X) ?_
                 refine Calls.mono (jW _ _ b (Un.below hv4 (Pl.Ex.trans bu (Pl.Ex.trans dL (Pl.Ex.trans fu (Pl.Ex.trans dh (Pl.Ex.trans bZ (Pl.Ex.trans bO (Pl.Ex.trans bH (Pl.Ex.trans bC (Pl.Ex.trans bQ bU))))))))))) ?_
                 rintro e w20 ⟨v38,rfl,hv38,hE20⟩
                 obtain ⟨A39,c40,rfl,u41⟩:=id hv38
                 have Nq:=Pl.Ex.size hE20
                 have uW:=Pl.Ex.trans zh hE20
                 refine ⟨_,rfl,uW,?_⟩
                 refine Pl.az rfl rfl rfl rfl rfl (fun u X=>Pl.enters Tryz.func38 (by kernel_rfl) rfl u X) ?_
                 refine Calls.mono (lT _ _ _ (b:Int) v hv38 (Zn.below Es (Pl.Ex.trans dh (Pl.Ex.trans bZ (Pl.Ex.trans bO (Pl.Ex.trans bH (Pl.Ex.trans bC (Pl.Ex.trans bQ (Pl.Ex.trans bU hE20)))))))) (Sz.le (Sn.sz lb) (by decide)) (Sz.le sv (by decide)) _ rfl) ?_
                 rintro e w21 ⟨v42,rfl,uH,bF⟩
                 obtain ⟨A43,c44,rfl,u45⟩:=id uH
                 have K6:=Pl.Ex.size bF
                 have rT:=Pl.Ex.trans uW bF
                 refine ⟨_,rfl,rT,?_⟩
                 refine Pl.az rfl rfl rfl rfl rfl (fun u X=>Pl.enters Tryz.func38 (by kernel_rfl) rfl u X) ?_
                 refine Calls.mono (lT _ _ _ ((b:Int)*v) (z/(g:Int)) uH (Zn.below zk (Pl.Ex.trans bO (Pl.Ex.trans bH (Pl.Ex.trans bC (Pl.Ex.trans bQ (Pl.Ex.trans bU (Pl.Ex.trans hE20 bF))))))) (Sz.le (Sz.mul (Sn.sz lb) sv (by decide):Sz ((b:Int)*v) 116) (by decide)) (Sz.le (Sz.div lz) (by decide)) _ rfl) ?_
                 rintro e Ye ⟨v46,rfl,qH,bg⟩
                 obtain ⟨A47,c48,rfl,u49⟩:=id qH
                 have I5:=Pl.Ex.size bg
                 have qG:=Pl.Ex.trans rT bg
                 refine ⟨_,rfl,qG,?_⟩
                 refine Pl.az rfl rfl rfl rfl rfl (fun u X=>Pl.enters Tryz.func37 (by kernel_rfl) rfl u X) ?_
                 refine Calls.mono (CB _ _ _ (((a:Int)*u)*(z/(g:Int))) (((b:Int)*v)*(z/(g:Int))) (Zn.below Oj (Pl.Ex.trans bU (Pl.Ex.trans hE20 (Pl.Ex.trans bF bg)))) qH (Sz.le (Sz.mul (Sz.mul (Sn.sz la) su (by decide):Sz ((a:Int)*u) 102) (Sz.div lz) (by decide):Sz (((a:Int)*u)*(z/(g:Int))) 114) (by decide)) (Sz.le (Sz.mul (Sz.mul (Sn.sz lb) sv (by decide):Sz ((b:Int)*v) 116) (Sz.div lz) (by decide):Sz (((b:Int)*v)*(z/(g:Int))) 128) (by decide)) _ rfl) ?_
                 rintro e Yg ⟨v50,rfl,tL,aY⟩
                 obtain ⟨JY,JZ,rfl,u53⟩:=id tL
                 have I6:=Pl.Ex.size aY
                 have mW:=Pl.Ex.trans qG aY
                 refine ⟨_,rfl,mW,?_⟩
                 refine Pl.eP (new:=[.bool (decide (((((a:Int)*u)*(z/(g:Int)))+(((b:Int)*v)*(z/(g:Int))))<0)),.slice JY (limbs (Int.natAbs ((((a:Int)*u)*(z/(g:Int)))+(((b:Int)*v)*(z/(g:Int)))))).length JZ]) (Pl.Cb.ex lY (Pl.Ex.trans hE20 (Pl.Ex.trans bF (Pl.Ex.trans bg aY)))) (by kernel_rfl) rfl (by simp [Value.oneCell']) rfl rfl rfl rfl rfl rfl (fun Y hY=>Pl.Ex.xs mW hY (by omega)) ?_
                 intro w24 dQ aeg
                 have mg:=Pl.Ex.xs (Pl.Ex.trans bU (Pl.Ex.trans hE20 (Pl.Ex.trans bF (Pl.Ex.trans bg aY)))) dQ (by omega)
                 have I7:=Pl.Xs.size dQ
                 have Q5:=Pl.Ex.xs mW dQ (by omega)
                 have k54:=Un.xs (Un.below u41 (Pl.Ex.trans bF (Pl.Ex.trans bg aY))) dQ (Pl.Cb.ex lY (Pl.Ex.trans hE20 (Pl.Ex.trans bF (Pl.Ex.trans bg aY)))) (by simp)
                 have k55:=Zn.xs (Zn.below hv38 (Pl.Ex.trans bF (Pl.Ex.trans bg aY))) dQ (Pl.Cb.ex lY (Pl.Ex.trans hE20 (Pl.Ex.trans bF (Pl.Ex.trans bg aY)))) (by simp)
                 have k56:=Un.xs (Un.below u45 (Pl.Ex.trans bg aY)) dQ (Pl.Cb.ex lY (Pl.Ex.trans hE20 (Pl.Ex.trans bF (Pl.Ex.trans bg aY)))) (by simp)
                 have k57:=Zn.xs (Zn.below uH (Pl.Ex.trans bg aY)) dQ (Pl.Cb.ex lY (Pl.Ex.trans hE20 (Pl.Ex.trans bF (Pl.Ex.trans bg aY)))) (by simp)
                 have k58:=Un.xs (Un.below u49 aY) dQ (Pl.Cb.ex lY (Pl.Ex.trans hE20 (Pl.Ex.trans bF (Pl.Ex.trans bg aY)))) (by simp)
                 have VW:=Zn.xs (Zn.below qH aY) dQ (Pl.Cb.ex lY (Pl.Ex.trans hE20 (Pl.Ex.trans bF (Pl.Ex.trans bg aY)))) (by simp)
                 have k60:=Un.xs u53 dQ (Pl.Cb.ex lY (Pl.Ex.trans hE20 (Pl.Ex.trans bF (Pl.Ex.trans bg aY)))) (by simp)
                 have k61:=Zn.xs tL dQ (Pl.Cb.ex lY (Pl.Ex.trans hE20 (Pl.Ex.trans bF (Pl.Ex.trans bg aY)))) (by simp)
                 refine Pl.aj ?_
                 refine Pl.uT (by kernel_rfl) ?_
                 refine Pl.eF [(5,.bool true),(8,.pointer (some ⟨N9,0,none⟩)),(14,.pointer (some ⟨N37,0,none⟩))] (Pl.aa rfl (Pl.aa rfl (Pl.aa rfl Pl.aI))) ?_
                 exact wC _ _ ⟨N37,JY,JZ,(Pl.Ex.trans bO (Pl.Ex.trans bH (Pl.Ex.trans bC (Pl.Ex.trans bQ mg)))),aeg,k61,k60,rfl⟩
             · refine Pl.fZ (z:=.agg #[.bool false,.slice none 0 0]) (by kernel_rfl) rfl rfl rfl rfl (fun Y hY=>Pl.Ex.trans iG hY) ?_
               intro N33 Nj bQ att kv
               have aw7:=Pl.Cb.lt kv
               have xV:=Pl.Ex.size bQ
               replace kv:Pl.Cb Nj N33 48 [.bool false,.slice none 0 0]:=kv
               have mU:=Pl.Ex.trans iG bQ
               refine Pl.aj ?_
               refine Pl.aM [(false,5,9567),(false,7,9599),(false,9,9727),(false,11,10239),(false,12,12287),(false,14,16383)] 32767 0 Pl.aB (by kernel_rfl) (by kernel_rfl) (by kernel_rfl) ?_
               refine Pl.az rfl rfl rfl rfl rfl (fun u X=>Pl.enters Tryz.func38 (by kernel_rfl) rfl u X) ?_
               refine Calls.mono (lT _ _ _ ((a:Int)*u) (z/(g:Int)) (Zn.below hv29 bQ) (Zn.below zk (Pl.Ex.trans bO (Pl.Ex.trans bH (Pl.Ex.trans bC bQ)))) (Sz.le (Sz.mul (Sn.sz la) su (by decide):Sz ((a:Int)*u) 102) (by decide)) (Sz.le (Sz.div lz) (by decide)) _ rfl) ?_
               rintro e Yc ⟨v34,rfl,hv34,bU⟩
               obtain ⟨A35,c36,rfl,u37⟩:=id hv34
               have I4:=Pl.Ex.size bU
               have zh:=Pl.Ex.trans mU bU
               refine ⟨_,rfl,zh,?_⟩
               refine Pl.az rfl rfl rfl rfl rfl (fun u X=>Pl.enters Tryz.func35 (by kernel_rfl) rfl u X) ?_
               refine Calls.mono (jW _ _ b (Un.below hv4 (Pl.Ex.trans bu (Pl.Ex.trans dL (Pl.Ex.trans fu (Pl.Ex.trans dh (Pl.Ex.trans bZ (Pl.Ex.trans bO (Pl.Ex.trans bH (Pl.Ex.trans bC (Pl.Ex.trans bQ bU))))))))))) ?_
               rintro e w20 ⟨v38,rfl,hv38,hE20⟩
               obtain ⟨A39,c40,rfl,u41⟩:=id hv38
               have Nq:=Pl.Ex.size hE20
               have uW:=Pl.Ex.trans zh hE20
               refine ⟨_,rfl,uW,?_⟩
               refine Pl.az rfl rfl rfl rfl rfl (fun u X=>Pl.enters Tryz.func38 (by kernel_rfl) rfl u X) ?_
               refine Calls.mono (lT _ _ _ (b:Int) v hv38 (Zn.below Es (Pl.Ex.trans dh (Pl.Ex.trans bZ (Pl.Ex.trans bO (Pl.Ex.trans bH (Pl.Ex.trans bC (Pl.Ex.trans bQ (Pl.Ex.trans bU hE20)))))))) (Sz.le (Sn.sz lb) (by decide)) (Sz.le sv (by decide)) _ rfl) ?_
               rintro e w21 ⟨v42,rfl,uH,bF⟩
               obtain ⟨A43,c44,rfl,u45⟩:=id uH
               have K6:=Pl.Ex.size bF
               have rT:=Pl.Ex.trans uW bF
               refine ⟨_,rfl,rT,?_⟩
               refine Pl.az rfl rfl rfl rfl rfl (fun u X=>Pl.enters Tryz.func38 (by kernel_rfl) rfl u X) ?_
               refine Calls.mono (lT _ _ _ ((b:Int)*v) (z/(g:Int)) uH (Zn.below zk (Pl.Ex.trans bO (Pl.Ex.trans bH (Pl.Ex.trans bC (Pl.Ex.trans bQ (Pl.Ex.trans bU (Pl.Ex.trans hE20 bF))))))) (Sz.le (Sz.mul (Sn.sz lb) sv (by decide):Sz ((b:Int)*v) 116) (by decide)) (Sz.le (Sz.div lz) (by decide)) _ rfl) ?_
               rintro e Ye ⟨v46,rfl,qH,bg⟩
               obtain ⟨A47,c48,rfl,u49⟩:=id qH
               have I5:=Pl.Ex.size bg
               have qG:=Pl.Ex.trans rT bg
               refine ⟨_,rfl,qG,?_⟩
               refine Pl.az rfl rfl rfl rfl rfl (fun u X=>Pl.enters Tryz.func37 (by kernel_rfl) rfl u X) ?_
               refine Calls.mono (CB _ _ _ (((a:Int)*u)*(z/(g:Int))) (((b:Int)*v)*(z/(g:Int))) (Zn.below hv34 (Pl.Ex.trans hE20 (Pl.Ex.trans bF bg))) qH (Sz.le (Sz.mul (Sz.mul (Sn.sz la) su (by decide):Sz ((a:Int)*u) 102) (Sz.div lz) (by decide):Sz (((a:Int)*u)*(z/(g:Int))) 114) (by decide)) (Sz.le (Sz.mul (Sz.mul (Sn.sz lb) sv (by decide):Sz ((b:Int)*v) 116) (Sz.div lz) (by decide):Sz (((b:Int)*v)*(z/(g:Int))) 128) (by decide)) _ rfl) ?_
               rintro e Yg ⟨v50,rfl,tL,aY⟩
               obtain ⟨JY,JZ,rfl,u53⟩:=id tL
               have I6:=Pl.Ex.size aY
               have mW:=Pl.Ex.trans qG aY
               refine ⟨_,rfl,mW,?_⟩
               refine Pl.eP (new:=[.bool (decide (((((a:Int)*u)*(z/(g:Int)))+(((b:Int)*v)*(z/(g:Int))))<0)),.slice JY (limbs (Int.natAbs ((((a:Int)*u)*(z/(g:Int)))+(((b:Int)*v)*(z/(g:Int)))))).length JZ]) (Pl.Cb.ex kv (Pl.Ex.trans bU (Pl.Ex.trans hE20 (Pl.Ex.trans bF (Pl.Ex.trans bg aY))))) (by kernel_rfl) rfl (by simp [Value.oneCell']) rfl rfl rfl rfl rfl rfl (fun Y hY=>Pl.Ex.xs mW hY (by omega)) ?_
               intro w24 dQ aeh
               have mg:=Pl.Ex.xs (Pl.Ex.trans bQ (Pl.Ex.trans bU (Pl.Ex.trans hE20 (Pl.Ex.trans bF (Pl.Ex.trans bg aY))))) dQ (by omega)
               have I7:=Pl.Xs.size dQ
               have Q5:=Pl.Ex.xs mW dQ (by omega)
               have k54:=Un.xs (Un.below u37 (Pl.Ex.trans hE20 (Pl.Ex.trans bF (Pl.Ex.trans bg aY)))) dQ (Pl.Cb.ex kv (Pl.Ex.trans bU (Pl.Ex.trans hE20 (Pl.Ex.trans bF (Pl.Ex.trans bg aY))))) (by simp)
               have k55:=Zn.xs (Zn.below hv34 (Pl.Ex.trans hE20 (Pl.Ex.trans bF (Pl.Ex.trans bg aY)))) dQ (Pl.Cb.ex kv (Pl.Ex.trans bU (Pl.Ex.trans hE20 (Pl.Ex.trans bF (Pl.Ex.trans bg aY))))) (by simp)
               have k56:=Un.xs (Un.below u41 (Pl.Ex.trans bF (Pl.Ex.trans bg aY))) dQ (Pl.Cb.ex kv (Pl.Ex.trans bU (Pl.Ex.trans hE20 (Pl.Ex.trans bF (Pl.Ex.trans bg aY))))) (by simp)
               have k57:=Zn.xs (Zn.below hv38 (Pl.Ex.trans bF (Pl.Ex.trans bg aY))) dQ (Pl.Cb.ex kv (Pl.Ex.trans bU (Pl.Ex.trans hE20 (Pl.Ex.trans bF (Pl.Ex.trans bg aY))))) (by simp)
               have k58:=Un.xs (Un.below u45 (Pl.Ex.trans bg aY)) dQ (Pl.Cb.ex kv (Pl.Ex.trans bU (Pl.Ex.trans hE20 (Pl.Ex.trans bF (Pl.Ex.trans bg aY))))) (by simp)
               have VW:=Zn.xs (Zn.below uH (Pl.Ex.trans bg aY)) dQ (Pl.Cb.ex kv (Pl.Ex.trans bU (Pl.Ex.trans hE20 (Pl.Ex.trans bF (Pl.Ex.trans bg aY))))) (by simp)
               have k60:=Un.xs (Un.below u49 aY) dQ (Pl.Cb.ex kv (Pl.Ex.trans bU (Pl.Ex.trans hE20 (Pl.Ex.trans bF (Pl.Ex.trans bg aY))))) (by simp)
               have k61:=Zn.xs (Zn.below qH aY) dQ (Pl.Cb.ex kv (Pl.Ex.trans bU (Pl.Ex.trans hE20 (Pl.Ex.trans bF (Pl.Ex.trans bg aY))))) (by simp)
               have k62:=Un.xs u53 dQ (Pl.Cb.ex kv (Pl.Ex.trans bU (Pl.Ex.trans hE20 (Pl.Ex.trans bF (Pl.Ex.trans bg aY))))) (by simp)
               have Lt:=Zn.xs tL dQ (Pl.Cb.ex kv (Pl.Ex.trans bU (Pl.Ex.trans hE20 (Pl.Ex.trans bF (Pl.Ex.trans bg aY))))) (by simp)
               refine Pl.aj ?_
               refine Pl.uT (by kernel_rfl) ?_
               refine Pl.eF [(5,.bool true),(8,.pointer (some ⟨N9,0,none⟩)),(14,.pointer (some ⟨N33,0,none⟩))] (Pl.aa rfl (Pl.aa rfl (Pl.aa rfl Pl.aI))) ?_
               exact wC _ _ ⟨N33,JY,JZ,(Pl.Ex.trans bO (Pl.Ex.trans bH (Pl.Ex.trans bC mg))),aeh,Lt,k62,rfl⟩
           · refine Pl.fZ (z:=.agg #[.bool false,.slice none 0 0]) (by kernel_rfl) rfl rfl rfl rfl (fun Y hY=>Pl.Ex.trans kC hY) ?_
             intro N29 KZ bC atw jr
             have aw':=Pl.Cb.lt jr
             have yM:=Pl.Ex.size bC
             replace jr:Pl.Cb KZ N29 48 [.bool false,.slice none 0 0]:=jr
             have iG:=Pl.Ex.trans kC bC
             refine Pl.aj ?_
             refine Pl.aM [(false,3,9559),(false,5,9567),(false,7,9599),(false,9,9727),(false,11,10239),(false,12,12287),(false,14,16383)] 32767 0 Pl.aB (by kernel_rfl) (by kernel_rfl) (by kernel_rfl) ?_
             refine Pl.az rfl rfl rfl rfl rfl (fun u X=>Pl.enters Tryz.func38 (by kernel_rfl) rfl u X) ?_
             refine Calls.mono (lT _ _ _ (a:Int) u (Zn.below hv25 bC) (Zn.below rO (Pl.Ex.trans dh (Pl.Ex.trans bZ (Pl.Ex.trans bO (Pl.Ex.trans bH bC))))) (Sz.le (Sn.sz la) (by decide)) (Sz.le su (by decide)) _ rfl) ?_
             rintro e Nj ⟨v30,rfl,Ol,bQ⟩
             obtain ⟨A31,c32,rfl,u33⟩:=id Ol
             have xV:=Pl.Ex.size bQ
             have mU:=Pl.Ex.trans iG bQ
             refine ⟨_,rfl,mU,?_⟩
             refine Pl.az rfl rfl rfl rfl rfl (fun u X=>Pl.enters Tryz.func38 (by kernel_rfl) rfl u X) ?_
             refine Calls.mono (lT _ _ _ ((a:Int)*u) (z/(g:Int)) Ol (Zn.below zk (Pl.Ex.trans bO (Pl.Ex.trans bH (Pl.Ex.trans bC bQ)))) (Sz.le (Sz.mul (Sn.sz la) su (by decide):Sz ((a:Int)*u) 102) (by decide)) (Sz.le (Sz.div lz) (by decide)) _ rfl) ?_
             rintro e Yc ⟨v34,rfl,hv34,bU⟩
             obtain ⟨A35,c36,rfl,u37⟩:=id hv34
             have I4:=Pl.Ex.size bU
             have zh:=Pl.Ex.trans mU bU
             refine ⟨_,rfl,zh,?_⟩
             refine Pl.az rfl rfl rfl rfl rfl (fun u X=>Pl.enters Tryz.func35 (by kernel_rfl) rfl u X) ?_
             refine Calls.mono (jW _ _ b (Un.below hv4 (Pl.Ex.trans bu (Pl.Ex.trans dL (Pl.Ex.trans fu (Pl.Ex.trans dh (Pl.Ex.trans bZ (Pl.Ex.trans bO (Pl.Ex.trans bH (Pl.Ex.trans bC (Pl.Ex.trans bQ bU))))))))))) ?_
             rintro e w20 ⟨v38,rfl,hv38,hE20⟩
             obtain ⟨A39,c40,rfl,u41⟩:=id hv38
             have Nq:=Pl.Ex.size hE20
             have uW:=Pl.Ex.trans zh hE20
             refine ⟨_,rfl,uW,?_⟩
             refine Pl.az rfl rfl rfl rfl rfl (fun u X=>Pl.enters Tryz.func38 (by kernel_rfl) rfl u X) ?_
             refine Calls.mono (lT _ _ _ (b:Int) v hv38 (Zn.below Es (Pl.Ex.trans dh (Pl.Ex.trans bZ (Pl.Ex.trans bO (Pl.Ex.trans bH (Pl.Ex.trans bC (Pl.Ex.trans bQ (Pl.Ex.trans bU hE20)))))))) (Sz.le (Sn.sz lb) (by decide)) (Sz.le sv (by decide)) _ rfl) ?_
             rintro e w21 ⟨v42,rfl,uH,bF⟩
             obtain ⟨A43,c44,rfl,u45⟩:=id uH
             have K6:=Pl.Ex.size bF
             have rT:=Pl.Ex.trans uW bF
             refine ⟨_,rfl,rT,?_⟩
             refine Pl.az rfl rfl rfl rfl rfl (fun u X=>Pl.enters Tryz.func38 (by kernel_rfl) rfl u X) ?_
             refine Calls.mono (lT _ _ _ ((b:Int)*v) (z/(g:Int)) uH (Zn.below zk (Pl.Ex.trans bO (Pl.Ex.trans bH (Pl.Ex.trans bC (Pl.Ex.trans bQ (Pl.Ex.trans bU (Pl.Ex.trans hE20 bF))))))) (Sz.le (Sz.mul (Sn.sz lb) sv (by decide):Sz ((b:Int)*v) 116) (by decide)) (Sz.le (Sz.div lz) (by decide)) _ rfl) ?_
             rintro e Ye ⟨v46,rfl,qH,bg⟩
             obtain ⟨A47,c48,rfl,u49⟩:=id qH
             have I5:=Pl.Ex.size bg
             have qG:=Pl.Ex.trans rT bg
             refine ⟨_,rfl,qG,?_⟩
             refine Pl.az rfl rfl rfl rfl rfl (fun u X=>Pl.enters Tryz.func37 (by kernel_rfl) rfl u X) ?_
             refine Calls.mono (CB _ _ _ (((a:Int)*u)*(z/(g:Int))) (((b:Int)*v)*(z/(g:Int))) (Zn.below hv34 (Pl.Ex.trans hE20 (Pl.Ex.trans bF bg))) qH (Sz.le (Sz.mul (Sz.mul (Sn.sz la) su (by decide):Sz ((a:Int)*u) 102) (Sz.div lz) (by decide):Sz (((a:Int)*u)*(z/(g:Int))) 114) (by decide)) (Sz.le (Sz.mul (Sz.mul (Sn.sz lb) sv (by decide):Sz ((b:Int)*v) 116) (Sz.div lz) (by decide):Sz (((b:Int)*v)*(z/(g:Int))) 128) (by decide)) _ rfl) ?_
             rintro e Yg ⟨v50,rfl,tL,aY⟩
             obtain ⟨JY,JZ,rfl,u53⟩:=id tL
             have I6:=Pl.Ex.size aY
             have mW:=Pl.Ex.trans qG aY
             refine ⟨_,rfl,mW,?_⟩
             refine Pl.eP (new:=[.bool (decide (((((a:Int)*u)*(z/(g:Int)))+(((b:Int)*v)*(z/(g:Int))))<0)),.slice JY (limbs (Int.natAbs ((((a:Int)*u)*(z/(g:Int)))+(((b:Int)*v)*(z/(g:Int)))))).length JZ]) (Pl.Cb.ex jr (Pl.Ex.trans bQ (Pl.Ex.trans bU (Pl.Ex.trans hE20 (Pl.Ex.trans bF (Pl.Ex.trans bg aY)))))) (by kernel_rfl) rfl (by simp [Value.oneCell']) rfl rfl rfl rfl rfl rfl (fun Y hY=>Pl.Ex.xs mW hY (by omega)) ?_
             intro w24 dQ aei
             have mg:=Pl.Ex.xs (Pl.Ex.trans bC (Pl.Ex.trans bQ (Pl.Ex.trans bU (Pl.Ex.trans hE20 (Pl.Ex.trans bF (Pl.Ex.trans bg aY)))))) dQ (by omega)
             have I7:=Pl.Xs.size dQ
             have Q5:=Pl.Ex.xs mW dQ (by omega)
             have k54:=Un.xs (Un.below u33 (Pl.Ex.trans bU (Pl.Ex.trans hE20 (Pl.Ex.trans bF (Pl.Ex.trans bg aY))))) dQ (Pl.Cb.ex jr (Pl.Ex.trans bQ (Pl.Ex.trans bU (Pl.Ex.trans hE20 (Pl.Ex.trans bF (Pl.Ex.trans bg aY)))))) (by simp)
             have k55:=Zn.xs (Zn.below Ol (Pl.Ex.trans bU (Pl.Ex.trans hE20 (Pl.Ex.trans bF (Pl.Ex.trans bg aY))))) dQ (Pl.Cb.ex jr (Pl.Ex.trans bQ (Pl.Ex.trans bU (Pl.Ex.trans hE20 (Pl.Ex.trans bF (Pl.Ex.trans bg aY)))))) (by simp)
             have k56:=Un.xs (Un.below u37 (Pl.Ex.trans hE20 (Pl.Ex.trans bF (Pl.Ex.trans bg aY)))) dQ (Pl.Cb.ex jr (Pl.Ex.trans bQ (Pl.Ex.trans bU (Pl.Ex.trans hE20 (Pl.Ex.trans bF (Pl.Ex.trans bg aY)))))) (by simp)
             have k57:=Zn.xs (Zn.below hv34 (Pl.Ex.trans hE20 (Pl.Ex.trans bF (Pl.Ex.trans bg aY)))) dQ (Pl.Cb.ex jr (Pl.Ex.trans bQ (Pl.Ex.trans bU (Pl.Ex.trans hE20 (Pl.Ex.trans bF (Pl.Ex.trans bg aY)))))) (by simp)
             have k58:=Un.xs (Un.below u41 (Pl.Ex.trans bF (Pl.Ex.trans bg aY))) dQ (Pl.Cb.ex jr (Pl.Ex.trans bQ (Pl.Ex.trans bU (Pl.Ex.trans hE20 (Pl.Ex.trans bF (Pl.Ex.trans bg aY)))))) (by simp)
             have VW:=Zn.xs (Zn.below hv38 (Pl.Ex.trans bF (Pl.Ex.trans bg aY))) dQ (Pl.Cb.ex jr (Pl.Ex.trans bQ (Pl.Ex.trans bU (Pl.Ex.trans hE20 (Pl.Ex.trans bF (Pl.Ex.trans bg aY)))))) (by simp)
             have k60:=Un.xs (Un.below u45 (Pl.Ex.trans bg aY)) dQ (Pl.Cb.ex jr (Pl.Ex.trans bQ (Pl.Ex.trans bU (Pl.Ex.trans hE20 (Pl.Ex.trans bF (Pl.Ex.trans bg aY)))))) (by simp)
             have k61:=Zn.xs (Zn.below uH (Pl.Ex.trans bg aY)) dQ (Pl.Cb.ex jr (Pl.Ex.trans bQ (Pl.Ex.trans bU (Pl.Ex.trans hE20 (Pl.Ex.trans bF (Pl.Ex.trans bg aY)))))) (by simp)
             have k62:=Un.xs (Un.below u49 aY) dQ (Pl.Cb.ex jr (Pl.Ex.trans bQ (Pl.Ex.trans bU (Pl.Ex.trans hE20 (Pl.Ex.trans bF (Pl.Ex.trans bg aY)))))) (by simp)
             have Lt:=Zn.xs (Zn.below qH aY) dQ (Pl.Cb.ex jr (Pl.Ex.trans bQ (Pl.Ex.trans bU (Pl.Ex.trans hE20 (Pl.Ex.trans bF (Pl.Ex.trans bg aY)))))) (by simp)
             have k64:=Un.xs u53 dQ (Pl.Cb.ex jr (Pl.Ex.trans bQ (Pl.Ex.trans bU (Pl.Ex.trans hE20 (Pl.Ex.trans bF (Pl.Ex.trans bg aY)))))) (by simp)
             have k65:=Zn.xs tL dQ (Pl.Cb.ex jr (Pl.Ex.trans bQ (Pl.Ex.trans bU (Pl.Ex.trans hE20 (Pl.Ex.trans bF (Pl.Ex.trans bg aY)))))) (by simp)
             refine Pl.aj ?_
             refine Pl.uT (by kernel_rfl) ?_
             refine Pl.eF [(5,.bool true),(8,.pointer (some ⟨N9,0,none⟩)),(14,.pointer (some ⟨N29,0,none⟩))] (Pl.aa rfl (Pl.aa rfl (Pl.aa rfl Pl.aI))) ?_
             exact wC _ _ ⟨N29,JY,JZ,(Pl.Ex.trans bO (Pl.Ex.trans bH mg)),aei,k65,k64,rfl⟩
         · refine Pl.fZ (z:=.agg #[.bool false,.slice none 0 0]) (by kernel_rfl) rfl rfl rfl rfl (fun Y hY=>Pl.Ex.trans mR hY) ?_
           intro N25 w16 bH aty iR
           have axc:=Pl.Cb.lt iR
           have xU:=Pl.Ex.size bH
           replace iR:Pl.Cb w16 N25 48 [.bool false,.slice none 0 0]:=iR
           have kC:=Pl.Ex.trans mR bH
           refine Pl.aj ?_
           refine Pl.aM [(false,1,9557),(false,3,9559),(false,5,9567),(false,7,9599),(false,9,9727),(false,11,10239),(false,12,12287),(false,14,16383)] 32767 0 Pl.aB (by kernel_rfl) (by kernel_rfl) (by kernel_rfl) ?_
           refine Pl.az rfl rfl rfl rfl rfl (fun u X=>Pl.enters Tryz.func35 (by kernel_rfl) rfl u X) ?_
           refine Calls.mono (jW _ _ a (Un.below hv3 (Pl.Ex.trans bE (Pl.Ex.trans bu (Pl.Ex.trans dL (Pl.Ex.trans fu (Pl.Ex.trans dh (Pl.Ex.trans bZ (Pl.Ex.trans bO bH))))))))) ?_
           rintro e KZ ⟨v26,rfl,V9,bC⟩
           obtain ⟨A27,c28,rfl,u29⟩:=id V9
           have yM:=Pl.Ex.size bC
           have iG:=Pl.Ex.trans kC bC
           refine ⟨_,rfl,iG,?_⟩
           refine Pl.az rfl rfl rfl rfl rfl (fun u X=>Pl.enters Tryz.func38 (by kernel_rfl) rfl u X) ?_
           refine Calls.mono (lT _ _ _ (a:Int) u V9 (Zn.below rO (Pl.Ex.trans dh (Pl.Ex.trans bZ (Pl.Ex.trans bO (Pl.Ex.trans bH bC))))) (Sz.le (Sn.sz la) (by decide)) (Sz.le su (by decide)) _ rfl) ?_
           rintro e Nj ⟨v30,rfl,Ol,bQ⟩
           obtain ⟨A31,c32,rfl,u33⟩:=id Ol
           have xV:=Pl.Ex.size bQ
           have mU:=Pl.Ex.trans iG bQ
           refine ⟨_,rfl,mU,?_⟩
           refine Pl.az rfl rfl rfl rfl rfl (fun u X=>Pl.enters Tryz.func38 (by kernel_rfl) rfl u X) ?_
           refine Calls.mono (lT _ _ _ ((a:Int)*u) (z/(g:Int)) Ol (Zn.below zk (Pl.Ex.trans bO (Pl.Ex.trans bH (Pl.Ex.trans bC bQ)))) (Sz.le (Sz.mul (Sn.sz la) su (by decide):Sz ((a:Int)*u) 102) (by decide)) (Sz.le (Sz.div lz) (by decide)) _ rfl) ?_
           rintro e Yc ⟨v34,rfl,hv34,bU⟩
           obtain ⟨A35,c36,rfl,u37⟩:=id hv34
           have I4:=Pl.Ex.size bU
           have zh:=Pl.Ex.trans mU bU
           refine ⟨_,rfl,zh,?_⟩
           refine Pl.az rfl rfl rfl rfl rfl (fun u X=>Pl.enters Tryz.func35 (by kernel_rfl) rfl u X) ?_
           refine Calls.mono (jW _ _ b (Un.below hv4 (Pl.Ex.trans bu (Pl.Ex.trans dL (Pl.Ex.trans fu (Pl.Ex.trans dh (Pl.Ex.trans bZ (Pl.Ex.trans bO (Pl.Ex.trans bH (Pl.Ex.trans bC (Pl.Ex.trans bQ bU))))))))))) ?_
           rintro e w20 ⟨v38,rfl,hv38,hE20⟩
           obtain ⟨A39,c40,rfl,u41⟩:=id hv38
           have Nq:=Pl.Ex.size hE20
           have uW:=Pl.Ex.trans zh hE20
           refine ⟨_,rfl,uW,?_⟩
           refine Pl.az rfl rfl rfl rfl rfl (fun u X=>Pl.enters Tryz.func38 (by kernel_rfl) rfl u X) ?_
           refine Calls.mono (lT _ _ _ (b:Int) v hv38 (Zn.below Es (Pl.Ex.trans dh (Pl.Ex.trans bZ (Pl.Ex.trans bO (Pl.Ex.trans bH (Pl.Ex.trans bC (Pl.Ex.trans bQ (Pl.Ex.trans bU hE20)))))))) (Sz.le (Sn.sz lb) (by decide)) (Sz.le sv (by decide)) _ rfl) ?_
           rintro e w21 ⟨v42,rfl,uH,bF⟩
           obtain ⟨A43,c44,rfl,u45⟩:=id uH
           have K6:=Pl.Ex.size bF
           have rT:=Pl.Ex.trans uW bF
           refine ⟨_,rfl,rT,?_⟩
           refine Pl.az rfl rfl rfl rfl rfl (fun u X=>Pl.enters Tryz.func38 (by kernel_rfl) rfl u X) ?_
           refine Calls.mono (lT _ _ _ ((b:Int)*v) (z/(g:Int)) uH (Zn.below zk (Pl.Ex.trans bO (Pl.Ex.trans bH (Pl.Ex.trans bC (Pl.Ex.trans bQ (Pl.Ex.trans bU (Pl.Ex.trans hE20 bF))))))) (Sz.le (Sz.mul (Sn.sz lb) sv (by decide):Sz ((b:Int)*v) 116) (by decide)) (Sz.le (Sz.div lz) (by decide)) _ rfl) ?_
           rintro e Ye ⟨v46,rfl,qH,bg⟩
           obtain ⟨A47,c48,rfl,u49⟩:=id qH
           have I5:=Pl.Ex.size bg
           have qG:=Pl.Ex.trans rT bg
           refine ⟨_,rfl,qG,?_⟩
           refine Pl.az rfl rfl rfl rfl rfl (fun u X=>Pl.enters Tryz.func37 (by kernel_rfl) rfl u X) ?_
           refine Calls.mono (CB _ _ _ (((a:Int)*u)*(z/(g:Int))) (((b:Int)*v)*(z/(g:Int))) (Zn.below hv34 (Pl.Ex.trans hE20 (Pl.Ex.trans bF bg))) qH (Sz.le (Sz.mul (Sz.mul (Sn.sz la) su (by decide):Sz ((a:Int)*u) 102) (Sz.div lz) (by decide):Sz (((a:Int)*u)*(z/(g:Int))) 114) (by decide)) (Sz.le (Sz.mul (Sz.mul (Sn.sz lb) sv (by decide):Sz ((b:Int)*v) 116) (Sz.div lz) (by decide):Sz (((b:Int)*v)*(z/(g:Int))) 128) (by decide)) _ rfl) ?_
           rintro e Yg ⟨v50,rfl,tL,aY⟩
           obtain ⟨JY,JZ,rfl,u53⟩:=id tL
           have I6:=Pl.Ex.size aY
           have mW:=Pl.Ex.trans qG aY
           refine ⟨_,rfl,mW,?_⟩
           refine Pl.eP (new:=[.bool (decide (((((a:Int)*u)*(z/(g:Int)))+(((b:Int)*v)*(z/(g:Int))))<0)),.slice JY (limbs (Int.natAbs ((((a:Int)*u)*(z/(g:Int)))+(((b:Int)*v)*(z/(g:Int)))))).length JZ]) (Pl.Cb.ex iR (Pl.Ex.trans bC (Pl.Ex.trans bQ (Pl.Ex.trans bU (Pl.Ex.trans hE20 (Pl.Ex.trans bF (Pl.Ex.trans bg aY))))))) (by kernel_rfl) rfl (by simp [Value.oneCell']) rfl rfl rfl rfl rfl rfl (fun Y hY=>Pl.Ex.xs mW hY (by omega)) ?_
           intro w24 dQ aej
           have mg:=Pl.Ex.xs (Pl.Ex.trans bH (Pl.Ex.trans bC (Pl.Ex.trans bQ (Pl.Ex.trans bU (Pl.Ex.trans hE20 (Pl.Ex.trans bF (Pl.Ex.trans bg aY))))))) dQ (by omega)
           have I7:=Pl.Xs.size dQ
           have Q5:=Pl.Ex.xs mW dQ (by omega)
           have k54:=Un.xs (Un.below u29 (Pl.Ex.trans bQ (Pl.Ex.trans bU (Pl.Ex.trans hE20 (Pl.Ex.trans bF (Pl.Ex.trans bg aY)))))) dQ (Pl.Cb.ex iR (Pl.Ex.trans bC (Pl.Ex.trans bQ (Pl.Ex.trans bU (Pl.Ex.trans hE20 (Pl.Ex.trans bF (Pl.Ex.trans bg aY))))))) (by simp)
           have k55:=Zn.xs (Zn.below V9 (Pl.Ex.trans bQ (Pl.Ex.trans bU (Pl.Ex.trans hE20 (Pl.Ex.trans bF (Pl.Ex.trans bg aY)))))) dQ (Pl.Cb.ex iR (Pl.Ex.trans bC (Pl.Ex.trans bQ (Pl.Ex.trans bU (Pl.Ex.trans hE20 (Pl.Ex.trans bF (Pl.Ex.trans bg aY))))))) (by simp)
           have k56:=Un.xs (Un.below u33 (Pl.Ex.trans bU (Pl.Ex.trans hE20 (Pl.Ex.trans bF (Pl.Ex.trans bg aY))))) dQ (Pl.Cb.ex iR (Pl.Ex.trans bC (Pl.Ex.trans bQ (Pl.Ex.trans bU (Pl.Ex.trans hE20 (Pl.Ex.trans bF (Pl.Ex.trans bg aY))))))) (by simp)
           have k57:=Zn.xs (Zn.below Ol (Pl.Ex.trans bU (Pl.Ex.trans hE20 (Pl.Ex.trans bF (Pl.Ex.trans bg aY))))) dQ (Pl.Cb.ex iR (Pl.Ex.trans bC (Pl.Ex.trans bQ (Pl.Ex.trans bU (Pl.Ex.trans hE20 (Pl.Ex.trans bF (Pl.Ex.trans bg aY))))))) (by simp)
           have k58:=Un.xs (Un.below u37 (Pl.Ex.trans hE20 (Pl.Ex.trans bF (Pl.Ex.trans bg aY)))) dQ (Pl.Cb.ex iR (Pl.Ex.trans bC (Pl.Ex.trans bQ (Pl.Ex.trans bU (Pl.Ex.trans hE20 (Pl.Ex.trans bF (Pl.Ex.trans bg aY))))))) (by simp)
           have VW:=Zn.xs (Zn.below hv34 (Pl.Ex.trans hE20 (Pl.Ex.trans bF (Pl.Ex.trans bg aY)))) dQ (Pl.Cb.ex iR (Pl.Ex.trans bC (Pl.Ex.trans bQ (Pl.Ex.trans bU (Pl.Ex.trans hE20 (Pl.Ex.trans bF (Pl.Ex.trans bg aY))))))) (by simp)
           have k60:=Un.xs (Un.below u41 (Pl.Ex.trans bF (Pl.Ex.trans bg aY))) dQ (Pl.Cb.ex iR (Pl.Ex.trans bC (Pl.Ex.trans bQ (Pl.Ex.trans bU (Pl.Ex.trans hE20 (Pl.Ex.trans bF (Pl.Ex.trans bg aY))))))) (by simp)
           have k61:=Zn.xs (Zn.below hv38 (Pl.Ex.trans bF (Pl.Ex.trans bg aY))) dQ (Pl.Cb.ex iR (Pl.Ex.trans bC (Pl.Ex.trans bQ (Pl.Ex.trans bU (Pl.Ex.trans hE20 (Pl.Ex.trans bF (Pl.Ex.trans bg aY))))))) (by simp)
           have k62:=Un.xs (Un.below u45 (Pl.Ex.trans bg aY)) dQ (Pl.Cb.ex iR (Pl.Ex.trans bC (Pl.Ex.trans bQ (Pl.Ex.trans bU (Pl.Ex.trans hE20 (Pl.Ex.trans bF (Pl.Ex.trans bg aY))))))) (by simp)
           have Lt:=Zn.xs (Zn.below uH (Pl.Ex.trans bg aY)) dQ (Pl.Cb.ex iR (Pl.Ex.trans bC (Pl.Ex.trans bQ (Pl.Ex.trans bU (Pl.Ex.trans hE20 (Pl.Ex.trans bF (Pl.Ex.trans bg aY))))))) (by simp)
           have k64:=Un.xs (Un.below u49 aY) dQ (Pl.Cb.ex iR (Pl.Ex.trans bC (Pl.Ex.trans bQ (Pl.Ex.trans bU (Pl.Ex.trans hE20 (Pl.Ex.trans bF (Pl.Ex.trans bg aY))))))) (by simp)
           have k65:=Zn.xs (Zn.below qH aY) dQ (Pl.Cb.ex iR (Pl.Ex.trans bC (Pl.Ex.trans bQ (Pl.Ex.trans bU (Pl.Ex.trans hE20 (Pl.Ex.trans bF (Pl.Ex.trans bg aY))))))) (by simp)
           have k66:=Un.xs u53 dQ (Pl.Cb.ex iR (Pl.Ex.trans bC (Pl.Ex.trans bQ (Pl.Ex.trans bU (Pl.Ex.trans hE20 (Pl.Ex.trans bF (Pl.Ex.trans bg aY))))))) (by simp)
           have k67:=Zn.xs tL dQ (Pl.Cb.ex iR (Pl.Ex.trans bC (Pl.Ex.trans bQ (Pl.Ex.trans bU (Pl.Ex.trans hE20 (Pl.Ex.trans bF (Pl.Ex.trans bg aY))))))) (by simp)
           refine Pl.aj ?_
           refine Pl.uT (by kernel_rfl) ?_
           refine Pl.eF [(5,.bool true),(8,.pointer (some ⟨N9,0,none⟩)),(14,.pointer (some ⟨N25,0,none⟩))] (Pl.aa rfl (Pl.aa rfl (Pl.aa rfl Pl.aI))) ?_
           exact wC _ _ ⟨N25,JY,JZ,(Pl.Ex.trans bO mg),aej,k67,k66,rfl⟩
     · repeat refine Pl.ay ?_
       refine Pl.j6 (S:=fun X=>Pl.Ex IZ X) fo (Pl.Ex.trans (Pl.Ex.refl _) (Pl.Ex.drew _)) ?_
       have bZ:=Pl.Ex.drew IZ
       generalize IZ.drew=Qf at *
       have FK:=Pl.Ex.size bZ
       intro qF
       refine Pl.aM [(true,0,0),(true,1,1)] 3 8 Pl.aB (by kernel_rfl) (by kernel_rfl) (by kernel_rfl) ?_
       refine Pl.D6 (part:=[.bool (decide (z<0)),.slice A6 (limbs (Int.natAbs z)).length c7]) (fun X hX=>Pl.Cb.ex (Pl.Cb.ex G6 (Pl.Ex.trans fu dh)) hX) rfl Tryz.underlying48 rfl (by kernel_rfl) qF rfl rfl rfl rfl rfl ?_
       refine Pl.aG qF rfl ?_
       refine Pl.aj ?_
       refine Pl.bS [2,7] 7 (by kernel_rfl) (by kernel_rfl) (by kernel_rfl) (Pl.aC ?_ (Pl.aC ?_ Pl.aR))
       · refine Pl.az rfl rfl rfl rfl rfl (fun u X=>Pl.enters Tryz.func35 (by kernel_rfl) rfl u X) ?_
         refine Calls.mono (jW _ _ g (Un.below nP (Pl.Ex.trans dh bZ))) ?_
         rintro e Ph ⟨v24,rfl,hv24,bO⟩
         obtain ⟨A25,c26,rfl,u27⟩:=id hv24
         have Co:=Pl.Ex.size bO
         have mR:=Pl.Ex.trans qF bO
         refine ⟨_,rfl,mR,?_⟩
         refine Pl.aj ?_
         refine Pl.bS [3,7] 6 (by kernel_rfl) (by kernel_rfl) (by kernel_rfl) (Pl.aC ?_ (Pl.aC ?_ Pl.aR))
         · refine Pl.az rfl rfl rfl rfl rfl (fun u X=>Pl.enters Tryz.func34 (by kernel_rfl) rfl u X) ?_
           refine Calls.mono (jl _ _ _ z (g:Int) (Zn.below hv5 (Pl.Ex.trans dL (Pl.Ex.trans fu (Pl.Ex.trans dh (Pl.Ex.trans bZ bO))))) hv24 (Sz.le lz (by decide)) (Sz.le (Sn.sz lg) (by decide)) c21 c22 _ rfl) ?_
           rintro e w16 ⟨v28,rfl,hv28,bH⟩
           obtain ⟨A29,c30,rfl,u31⟩:=id hv28
           have xU:=Pl.Ex.size bH
           have kC:=Pl.Ex.trans mR bH
           refine ⟨_,rfl,kC,?_⟩
           refine Pl.aj ?_
           refine Pl.aM [(true,4,15),(true,5,31),(true,6,63),(false,7,127),(false,8,255),(true,9,511)] 1023 0 Pl.aB (by kernel_rfl) (by kernel_rfl) (by kernel_rfl) ?_
           refine Pl.aG kC rfl ?_
           refine Pl.fZ (z:=.agg #[.bool false,.slice none 0 0]) (by kernel_rfl) rfl rfl rfl rfl (fun Y hY=>Pl.Ex.trans kC hY) ?_
           intro N32 KZ bC atA ES
           have axf:=Pl.Cb.lt ES
           have yM:=Pl.Ex.size bC
           replace ES:Pl.Cb KZ N32 48 [.bool false,.slice none 0 0]:=ES
           have iG:=Pl.Ex.trans kC bC
           refine Pl.eP (new:=[.bool (decide ((z/(g:Int))<0)),.slice A29 (limbs (Int.natAbs (z/(g:Int)))).length c30]) ES (by kernel_rfl) rfl (by simp [Value.oneCell']) rfl rfl rfl rfl rfl rfl (fun Y hY=>Pl.Ex.xs iG hY (by omega)) ?_
           intro Nj iV aek
           have bQ:=Pl.Ex.xs bC iV (by omega)
           have xV:=Pl.Xs.size iV
           have mU:=Pl.Ex.xs iG iV (by omega)
           refine Pl.aG mU rfl ?_
           refine Pl.aj ?_
           refine Pl.uT (by kernel_rfl) ?_
           refine Pl.eF [(4,.bool false),(5,.bool true),(6,v3),(7,v4),(8,.pointer (some ⟨N9,0,none⟩)),(9,v10),(10,.pointer (some ⟨N19,0,none⟩)),(11,.pointer (some ⟨N20,0,none⟩)),(12,.pointer (some ⟨N32,0,none⟩)),(13,.bool true)] (Pl.aa rfl (Pl.aa rfl (Pl.aa rfl (Pl.aa rfl (Pl.aa rfl (Pl.aa rfl (Pl.aa rfl (Pl.aa rfl (Pl.aa rfl (Pl.aa rfl Pl.aI)))))))))) ?_
           exact zg _ _ ⟨N32,A29,c30,(Pl.Ex.trans bZ (Pl.Ex.trans bO (Pl.Ex.trans bH bQ))),aek,(Zn.below hv28 bQ),(Un.below u31 bQ),rfl⟩
         · refine Pl.fZ (z:=.agg #[.bool false,.slice none 0 0]) (by kernel_rfl) rfl rfl rfl rfl (fun Y hY=>Pl.Ex.trans mR hY) ?_
           intro N28 w16 bH ZZ jv
           have afX:=Pl.Cb.lt jv
           have xU:=Pl.Ex.size bH
           replace jv:Pl.Cb w16 N28 48 [.bool false,.slice none 0 0]:=jv
           have kC:=Pl.Ex.trans mR bH
           refine Pl.aj ?_
           refine Pl.aM [(false,3,135),(true,4,143),(true,5,159),(true,6,191),(false,8,255),(true,9,511)] 1023 0 Pl.aB (by kernel_rfl) (by kernel_rfl) (by kernel_rfl) ?_
           refine Pl.az rfl rfl rfl rfl rfl (fun u X=>Pl.enters Tryz.func34 (by kernel_rfl) rfl u X) ?_
           refine Calls.mono (jl _ _ _ z (g:Int) (Zn.below hv5 (Pl.Ex.trans dL (Pl.Ex.trans fu (Pl.Ex.trans dh (Pl.Ex.trans bZ (Pl.Ex.trans bO bH)))))) (Zn.below hv24 bH) (Sz.le lz (by decide)) (Sz.le (Sn.sz lg) (by decide)) c21 c22 _ rfl) ?_
           rintro e KZ ⟨v29,rfl,hv29,bC⟩
           obtain ⟨A30,c31,rfl,u32⟩:=id hv29
           have yM:=Pl.Ex.size bC
           have iG:=Pl.Ex.trans kC bC
           refine ⟨_,rfl,iG,?_⟩
           refine Pl.aG iG rfl ?_
           refine Pl.eP (new:=[.bool (decide ((z/(g:Int))<0)),.slice A30 (limbs (Int.natAbs (z/(g:Int)))).length c31]) (Pl.Cb.ex jv bC) (by kernel_rfl) rfl (by simp [Value.oneCell']) rfl rfl rfl rfl rfl rfl (fun Y hY=>Pl.Ex.xs iG hY (by omega)) ?_
           intro Nj iV LP
           have bQ:=Pl.Ex.xs (Pl.Ex.trans bH bC) iV (by omega)
           have xV:=Pl.Xs.size iV
           have mU:=Pl.Ex.xs iG iV (by omega)
           have k33:=Un.xs u32 iV (Pl.Cb.ex jv bC) (by simp)
           have k34:=Zn.xs hv29 iV (Pl.Cb.ex jv bC) (by simp)
           refine Pl.aG mU rfl ?_
           refine Pl.aj ?_
           refine Pl.uT (by kernel_rfl) ?_
           refine Pl.eF [(4,.bool false),(5,.bool true),(6,v3),(7,v4),(8,.pointer (some ⟨N9,0,none⟩)),(9,v10),(10,.pointer (some ⟨N19,0,none⟩)),(11,.pointer (some ⟨N20,0,none⟩)),(12,.pointer (some ⟨N28,0,none⟩)),(13,.bool true)] (Pl.aa rfl (Pl.aa rfl (Pl.aa rfl (Pl.aa rfl (Pl.aa rfl (Pl.aa rfl (Pl.aa rfl (Pl.aa rfl (Pl.aa rfl (Pl.aa rfl Pl.aI)))))))))) ?_
           exact zg _ _ ⟨N28,A30,c31,(Pl.Ex.trans bZ (Pl.Ex.trans bO bQ)),LP,k34,k33,rfl⟩
       · refine Pl.fZ (z:=.agg #[.bool false,.slice none 0 0]) (by kernel_rfl) rfl rfl rfl rfl (fun Y hY=>Pl.Ex.trans qF hY) ?_
         intro N24 Ph bO aix jR
         have anI:=Pl.Cb.lt jR
         have Co:=Pl.Ex.size bO
         replace jR:Pl.Cb Ph N24 48 [.bool false,.slice none 0 0]:=jR
         have mR:=Pl.Ex.trans qF bO
         refine Pl.aj ?_
         refine Pl.aM [(false,2,131),(false,3,135),(true,4,143),(true,5,159),(true,6,191),(false,8,255),(true,9,511)] 1023 0 Pl.aB (by kernel_rfl) (by kernel_rfl) (by kernel_rfl) ?_
         refine Pl.az rfl rfl rfl rfl rfl (fun u X=>Pl.enters Tryz.func35 (by kernel_rfl) rfl u X) ?_
         refine Calls.mono (jW _ _ g (Un.below nP (Pl.Ex.trans dh (Pl.Ex.trans bZ bO)))) ?_
         rintro e w16 ⟨v25,rfl,hv25,bH⟩
         obtain ⟨A26,c27,rfl,u28⟩:=id hv25
         have xU:=Pl.Ex.size bH
         have kC:=Pl.Ex.trans mR bH
         refine ⟨_,rfl,kC,?_⟩
         refine Pl.az rfl rfl rfl rfl rfl (fun u X=>Pl.enters Tryz.func34 (by kernel_rfl) rfl u X) ?_
         refine Calls.mono (jl _ _ _ z (g:Int) (Zn.below hv5 (Pl.Ex.trans dL (Pl.Ex.trans fu (Pl.Ex.trans dh (Pl.Ex.trans bZ (Pl.Ex.trans bO bH)))))) hv25 (Sz.le lz (by decide)) (Sz.le (Sn.sz lg) (by decide)) c21 c22 _ rfl) ?_
         rintro e KZ ⟨v29,rfl,hv29,bC⟩
         obtain ⟨A30,c31,rfl,u32⟩:=id hv29
         have yM:=Pl.Ex.size bC
         have iG:=Pl.Ex.trans kC bC
         refine ⟨_,rfl,iG,?_⟩
         refine Pl.aG iG rfl ?_
         refine Pl.eP (new:=[.bool (decide ((z/(g:Int))<0)),.slice A30 (limbs (Int.natAbs (z/(g:Int)))).length c31]) (Pl.Cb.ex jR (Pl.Ex.trans bH bC)) (by kernel_rfl) rfl (by simp [Value.oneCell']) rfl rfl rfl rfl rfl rfl (fun Y hY=>Pl.Ex.xs iG hY (by omega)) ?_
         intro Nj iV Ud
         have bQ:=Pl.Ex.xs (Pl.Ex.trans bO (Pl.Ex.trans bH bC)) iV (by omega)
         have xV:=Pl.Xs.size iV
         have mU:=Pl.Ex.xs iG iV (by omega)
         have k33:=Un.xs (Un.below u28 bC) iV (Pl.Cb.ex jR (Pl.Ex.trans bH bC)) (by simp)
         have k34:=Zn.xs (Zn.below hv25 bC) iV (Pl.Cb.ex jR (Pl.Ex.trans bH bC)) (by simp)
         have k35:=Un.xs u32 iV (Pl.Cb.ex jR (Pl.Ex.trans bH bC)) (by simp)
         have k36:=Zn.xs hv29 iV (Pl.Cb.ex jR (Pl.Ex.trans bH bC)) (by simp)
         refine Pl.aG mU rfl ?_
         refine Pl.aj ?_
         refine Pl.uT (by kernel_rfl) ?_
         refine Pl.eF [(4,.bool false),(5,.bool true),(6,v3),(7,v4),(8,.pointer (some ⟨N9,0,none⟩)),(9,v10),(10,.pointer (some ⟨N19,0,none⟩)),(11,.pointer (some ⟨N20,0,none⟩)),(12,.pointer (some ⟨N24,0,none⟩)),(13,.bool true)] (Pl.aa rfl (Pl.aa rfl (Pl.aa rfl (Pl.aa rfl (Pl.aa rfl (Pl.aa rfl (Pl.aa rfl (Pl.aa rfl (Pl.aa rfl (Pl.aa rfl Pl.aI)))))))))) ?_
         exact zg _ _ ⟨N24,A30,c31,(Pl.Ex.trans bZ bQ),Ud,k36,k35,rfl⟩
   · refine Pl.aG trivial rfl ?_
     refine Pl.eP (new:=[.bool (decide (u<0)),.slice A12 (limbs (Int.natAbs u)).length c13]) (Pl.Cb.ex xw dw) (by kernel_rfl) rfl (by simp [Value.oneCell']) rfl rfl rfl rfl rfl rfl (fun Y hY=>trivial) ?_
     intro w12 G7 Bd
     have fV:=Pl.Ex.xs (Pl.Ex.trans cZ dw) G7 (by omega)
     have Fw:=Pl.Xs.size G7
     have Be:=Pl.Cb.xs lX G7 (by simp;omega)
     refine Pl.eP (new:=[.bool (decide (v<0)),.slice A16 (limbs (Int.natAbs v)).length c17]) Be (by kernel_rfl) rfl (by simp [Value.oneCell']) rfl rfl rfl rfl rfl rfl (fun Y hY=>trivial) ?_
     intro IZ Ad LK
     have dh:=Pl.Ex.xs fV Ad (by omega)
     have Fx:=Pl.Xs.size Ad
     have LM:=Pl.Cb.xs Bd Ad (by simp;omega)
     refine Pl.aj ?_
     repeat refine Pl.ay ?_
     refine Pl.uQ (fun l' w'=>Pl.Ex IZ w'∧l'=[(4,.bool false),(5,.bool true),(6,v3),(7,v4),(8,.pointer (some ⟨N9,0,none⟩)),(9,v10),(13,.bool false)]) ?_ fun zg=>?_
     · rintro _ Qf ⟨bZ,rfl⟩
       have FK:=Pl.Ex.size bZ
       repeat refine Pl.ay ?_
       refine Pl.ak (by kernel_rfl) ?_
       refine Pl.aG trivial rfl ?_
       refine Pl.ng (v:=.bool true) trivial rfl rfl rfl rfl rfl (fun X=>rfl) ?_
       refine Pl.aj ?_
       repeat refine Pl.ay ?_
       refine Pl.cK rfl ?_
       repeat refine Pl.ay ?_
       refine Pl.ak (by kernel_rfl) ?_
       refine Pl.aG trivial rfl ?_
       obtain ⟨A24,c25,rfl⟩:=Un.Xf (Un.below nP (Pl.Ex.trans dh bZ))
       refine Pl.pY Tryz.underlying22 trivial rfl rfl rfl rfl rfl ?_
       have anC:¬ (((limbs g).length)=0):=fun h9=>c21 (by rw [iU.1 h9];rfl)
       refine Pl.bV (v:=.bool false) (fun X=>Pl.gL (Pl.e_f (by omega)) X) trivial rfl rfl rfl rfl rfl rfl ?_
       refine Pl.aG trivial rfl ?_
       refine Pl.F6 (part:=[.bool (decide (z<0)),.slice A6 (limbs (Int.natAbs z)).length c7]) (Pl.Cb.ex G6 (Pl.Ex.trans fu (Pl.Ex.trans dh bZ))) rfl Tryz.underlying48 rfl (by kernel_rfl) trivial rfl rfl rfl rfl rfl ?_
       refine Pl.az rfl rfl rfl rfl rfl (fun u X=>Pl.enters Tryz.func36 (by kernel_rfl) rfl u X) ?_
       refine Calls.mono (Jf _ _ _ g z (Un.below nP (Pl.Ex.trans dh bZ)) (Zn.below hv5 (Pl.Ex.trans dL (Pl.Ex.trans fu (Pl.Ex.trans dh bZ)))) lg lz (by have:=c21;omega) _ (decide_eq_false c22)) ?_
       rintro e Ph ⟨rfl,bO⟩
       have Co:=Pl.Ex.size bO
       refine ⟨_,rfl,trivial,?_⟩
       refine Pl.ng (v:=.bool true) trivial rfl rfl rfl rfl rfl (fun X=>rfl) ?_
       refine Pl.aG trivial rfl ?_
       refine Pl.aj ?_
       repeat refine Pl.ay ?_
       exact Pl.bI rfl rfl  (⟨rfl,(Pl.Ex.trans hE1 (Pl.Ex.trans hE2 (Pl.Ex.trans bJ (Pl.Ex.trans bX (Pl.Ex.trans bE (Pl.Ex.trans bu (Pl.Ex.trans dL (Pl.Ex.trans fu (Pl.Ex.trans dh (Pl.Ex.trans bZ bO))))))))))⟩)
     · repeat refine Pl.ay ?_
       refine Pl.j6 (S:=fun X=>Pl.Ex IZ X) fo (Pl.Ex.trans (Pl.Ex.refl _) (Pl.Ex.drew _)) ?_
       have bZ:=Pl.Ex.drew IZ
       generalize IZ.drew=Qf at *
       have FK:=Pl.Ex.size bZ
       intro qF
       refine Pl.aM [(true,0,0),(true,1,1)] 3 8 Pl.aB (by kernel_rfl) (by kernel_rfl) (by kernel_rfl) ?_
       refine Pl.D6 (part:=[.bool (decide (z<0)),.slice A6 (limbs (Int.natAbs z)).length c7]) (fun X hX=>Pl.Cb.ex (Pl.Cb.ex G6 (Pl.Ex.trans fu dh)) hX) rfl Tryz.underlying48 rfl (by kernel_rfl) qF rfl rfl rfl rfl rfl ?_
       refine Pl.aG qF rfl ?_
       refine Pl.aj ?_
       refine Pl.bS [2,7] 7 (by kernel_rfl) (by kernel_rfl) (by kernel_rfl) (Pl.aC ?_ (Pl.aC ?_ Pl.aR))
       · refine Pl.az rfl rfl rfl rfl rfl (fun u X=>Pl.enters Tryz.func35 (by kernel_rfl) rfl u X) ?_
         refine Calls.mono (jW _ _ g (Un.below nP (Pl.Ex.trans dh bZ))) ?_
         rintro e Ph ⟨v24,rfl,hv24,bO⟩
         obtain ⟨A25,c26,rfl,u27⟩:=id hv24
         have Co:=Pl.Ex.size bO
         have mR:=Pl.Ex.trans qF bO
         refine ⟨_,rfl,mR,?_⟩
         refine Pl.aj ?_
         refine Pl.bS [3,7] 6 (by kernel_rfl) (by kernel_rfl) (by kernel_rfl) (Pl.aC ?_ (Pl.aC ?_ Pl.aR))
         · refine Pl.az rfl rfl rfl rfl rfl (fun u X=>Pl.enters Tryz.func34 (by kernel_rfl) rfl u X) ?_
           refine Calls.mono (pQ _ _ _ z (g:Int) (Zn.below hv5 (Pl.Ex.trans dL (Pl.Ex.trans fu (Pl.Ex.trans dh (Pl.Ex.trans bZ bO))))) hv24 (Sz.le lz (by decide)) (Sz.le (Sn.sz lg) (by decide)) (.inr c22)) ?_
           rintro e w16 ⟨rfl,bH⟩
           have xU:=Pl.Ex.size bH
           have kC:=Pl.Ex.trans mR bH
           refine ⟨_,rfl,kC,?_⟩
           refine Pl.aj ?_
           refine Pl.aM [(true,4,15),(true,5,31),(true,6,63),(false,7,127),(false,8,255),(true,9,511)] 1023 0 Pl.aB (by kernel_rfl) (by kernel_rfl) (by kernel_rfl) ?_
           refine Pl.aG kC rfl ?_
           refine Pl.fZ (z:=.agg #[.bool false,.slice none 0 0]) (by kernel_rfl) rfl rfl rfl rfl (fun Y hY=>Pl.Ex.trans kC hY) ?_
           intro N28 KZ bC ZZ jv
           have afX:=Pl.Cb.lt jv
           have yM:=Pl.Ex.size bC
           replace jv:Pl.Cb KZ N28 48 [.bool false,.slice none 0 0]:=jv
           have iG:=Pl.Ex.trans kC bC
           refine Pl.eP (new:=[.bool false,.slice none 0 0]) jv (by kernel_rfl) rfl (by simp [Value.oneCell']) rfl rfl rfl rfl rfl rfl (fun Y hY=>Pl.Ex.xs iG hY (by omega)) ?_
           intro Nj iV LP
           have bQ:=Pl.Ex.xs bC iV (by omega)
           have xV:=Pl.Xs.size iV
           have mU:=Pl.Ex.xs iG iV (by omega)
           refine Pl.aG mU rfl ?_
           refine Pl.aj ?_
           refine Pl.uT (by kernel_rfl) ?_
           refine Pl.eF [(4,.bool false),(5,.bool true),(6,v3),(7,v4),(8,.pointer (some ⟨N9,0,none⟩)),(9,v10),(13,.bool false)] (Pl.aa rfl (Pl.aa rfl (Pl.aa rfl (Pl.aa rfl (Pl.aa rfl (Pl.aa rfl (Pl.aa rfl Pl.aI))))))) ?_
           exact zg _ _ ⟨(Pl.Ex.trans bZ (Pl.Ex.trans bO (Pl.Ex.trans bH bQ))),rfl⟩
         · refine Pl.fZ (z:=.agg #[.bool false,.slice none 0 0]) (by kernel_rfl) rfl rfl rfl rfl (fun Y hY=>Pl.Ex.trans mR hY) ?_
           intro N28 w16 bH ZZ jv
           have afX:=Pl.Cb.lt jv
           have xU:=Pl.Ex.size bH
           replace jv:Pl.Cb w16 N28 48 [.bool false,.slice none 0 0]:=jv
           have kC:=Pl.Ex.trans mR bH
           refine Pl.aj ?_
           refine Pl.aM [(false,3,135),(true,4,143),(true,5,159),(true,6,191),(false,8,255),(true,9,511)] 1023 0 Pl.aB (by kernel_rfl) (by kernel_rfl) (by kernel_rfl) ?_
           refine Pl.az rfl rfl rfl rfl rfl (fun u X=>Pl.enters Tryz.func34 (by kernel_rfl) rfl u X) ?_
           refine Calls.mono (pQ _ _ _ z (g:Int) (Zn.below hv5 (Pl.Ex.trans dL (Pl.Ex.trans fu (Pl.Ex.trans dh (Pl.Ex.trans bZ (Pl.Ex.trans bO bH)))))) (Zn.below hv24 bH) (Sz.le lz (by decide)) (Sz.le (Sn.sz lg) (by decide)) (.inr c22)) ?_
           rintro e KZ ⟨rfl,bC⟩
           have yM:=Pl.Ex.size bC
           have iG:=Pl.Ex.trans kC bC
           refine ⟨_,rfl,iG,?_⟩
           refine Pl.aG iG rfl ?_
           refine Pl.eP (new:=[.bool false,.slice none 0 0]) (Pl.Cb.ex jv bC) (by kernel_rfl) rfl (by simp [Value.oneCell']) rfl rfl rfl rfl rfl rfl (fun Y hY=>Pl.Ex.xs iG hY (by omega)) ?_
           intro Nj iV LP
           have bQ:=Pl.Ex.xs (Pl.Ex.trans bH bC) iV (by omega)
           have xV:=Pl.Xs.size iV
           have mU:=Pl.Ex.xs iG iV (by omega)
           refine Pl.aG mU rfl ?_
           refine Pl.aj ?_
           refine Pl.uT (by kernel_rfl) ?_
           refine Pl.eF [(4,.bool false),(5,.bool true),(6,v3),(7,v4),(8,.pointer (some ⟨N9,0,none⟩)),(9,v10),(13,.bool false)] (Pl.aa rfl (Pl.aa rfl (Pl.aa rfl (Pl.aa rfl (Pl.aa rfl (Pl.aa rfl (Pl.aa rfl Pl.aI))))))) ?_
           exact zg _ _ ⟨(Pl.Ex.trans bZ (Pl.Ex.trans bO bQ)),rfl⟩
       · refine Pl.fZ (z:=.agg #[.bool false,.slice none 0 0]) (by kernel_rfl) rfl rfl rfl rfl (fun Y hY=>Pl.Ex.trans qF hY) ?_
         intro N24 Ph bO aix jR
         have anI:=Pl.Cb.lt jR
         have Co:=Pl.Ex.size bO
         replace jR:Pl.Cb Ph N24 48 [.bool false,.slice none 0 0]:=jR
         have mR:=Pl.Ex.trans qF bO
         refine Pl.aj ?_
         refine Pl.aM [(false,2,131),(false,3,135),(true,4,143),(true,5,159),(true,6,191),(false,8,255),(true,9,511)] 1023 0 Pl.aB (by kernel_rfl) (by kernel_rfl) (by kernel_rfl) ?_
         refine Pl.az rfl rfl rfl rfl rfl (fun u X=>Pl.enters Tryz.func35 (by kernel_rfl) rfl u X) ?_
         refine Calls.mono (jW _ _ g (Un.below nP (Pl.Ex.trans dh (Pl.Ex.trans bZ bO)))) ?_
         rintro e w16 ⟨v25,rfl,hv25,bH⟩
         obtain ⟨A26,c27,rfl,u28⟩:=id hv25
         have xU:=Pl.Ex.size bH
         have kC:=Pl.Ex.trans mR bH
         refine ⟨_,rfl,kC,?_⟩
         refine Pl.az rfl rfl rfl rfl rfl (fun u X=>Pl.enters Tryz.func34 (by kernel_rfl) rfl u X) ?_
         refine Calls.mono (pQ _ _ _ z (g:Int) (Zn.below hv5 (Pl.Ex.trans dL (Pl.Ex.trans fu (Pl.Ex.trans dh (Pl.Ex.trans bZ (Pl.Ex.trans bO bH)))))) hv25 (Sz.le lz (by decide)) (Sz.le (Sn.sz lg) (by decide)) (.inr c22)) ?_
         rintro e KZ ⟨rfl,bC⟩
         have yM:=Pl.Ex.size bC
         have iG:=Pl.Ex.trans kC bC
         refine ⟨_,rfl,iG,?_⟩
         refine Pl.aG iG rfl ?_
         refine Pl.eP (new:=[.bool false,.slice none 0 0]) (Pl.Cb.ex jR (Pl.Ex.trans bH bC)) (by kernel_rfl) rfl (by simp [Value.oneCell']) rfl rfl rfl rfl rfl rfl (fun Y hY=>Pl.Ex.xs iG hY (by omega)) ?_
         intro Nj iV Ud
         have bQ:=Pl.Ex.xs (Pl.Ex.trans bO (Pl.Ex.trans bH bC)) iV (by omega)
         have xV:=Pl.Xs.size iV
         have mU:=Pl.Ex.xs iG iV (by omega)
         have k29:=Un.xs (Un.below u28 bC) iV (Pl.Cb.ex jR (Pl.Ex.trans bH bC)) (by simp)
         have k30:=Zn.xs (Zn.below hv25 bC) iV (Pl.Cb.ex jR (Pl.Ex.trans bH bC)) (by simp)
         refine Pl.aG mU rfl ?_
         refine Pl.aj ?_
         refine Pl.uT (by kernel_rfl) ?_
         refine Pl.eF [(4,.bool false),(5,.bool true),(6,v3),(7,v4),(8,.pointer (some ⟨N9,0,none⟩)),(9,v10),(13,.bool false)] (Pl.aa rfl (Pl.aa rfl (Pl.aa rfl (Pl.aa rfl (Pl.aa rfl (Pl.aa rfl (Pl.aa rfl Pl.aI))))))) ?_
         exact zg _ _ ⟨(Pl.Ex.trans bZ bQ),rfl⟩
end Go.Proofs.YtfhcmggpojhegaaGreatDoor
namespace Go.Proofs.YtfhcmggpojhegaaGreatDoor
open Go.ChangeShapes Go.WideShapes Go.ChangeAt Go.RowKit
set_option linter.all false
set_option maxRecDepth 100000
set_option maxHeartbeats 8000000
abbrev jo:List (String × DataW Unit):=[("unicode/utf8.acceptRanges",Rows.laid_unicode_utf8_acceptRanges),("ziggurat/ntt.fields",Rows.laid_ziggurat_ntt_fields),("unicode/utf8.first",Rows.laid_unicode_utf8_first)]
theorem qI (os:Os) (args:Array Value):laidMetH Tryz.prog jo ((World.laidAll Tryz.prog os jo).forCall (fun _ _=>0) ⟨#[],args,[]⟩).memory:=by
 rw [MakeChecks.laidMetH_plain _ _ _ (by kernel_rfl)]
 exact laidMet_laidAll _ (by kernel_rfl) (by kernel_rfl)
end Go.Proofs.YtfhcmggpojhegaaGreatDoor
namespace Go.Proofs.YtfhcmggpojhegaaGreatDoor
open Go.ChangeShapes Go.WideShapes Go.ChangeAt Go.RowKit
set_option linter.all false
set_option maxRecDepth 100000
set_option maxHeartbeats 8000000
theorem aiy:Tryz.prog.cellsOf 48 = 2:=by kernel_rfl
theorem aiz:Tryz.prog.cellsOf 22 = 1:=by kernel_rfl
theorem aiA {H:Type} {enc:TypeId × Value→H} {W:World} {m:Nat} {c0 c1:Value} {y:DataW H × List MemPlace} (h:DataW.trod enc Tryz.prog W 0 (fun _=>true) true m 48 [c0,c1]=some y) :
  ∃ (s:Bool) (A:Option Addr) (c:Nat) (xs:List Nat),c0 = .bool s∧c1 = .slice A xs.length c∧U W (.slice A xs.length c) xs:=by
 obtain ⟨ys,n,_,rfl,hl,hlen,hf⟩:=DataW.trod_struct Tryz.underlying48 h
 match ys,hlen,hf with
 | [y0,y1],_,hf =>
  have h0:=hf 0 _ rfl
  have h1:=hf 1 _ rfl
  have cb:Tryz.prog.cellsOf 4 = 1:=by kernel_rfl
  simp [aiz,cb] at h0 h1
  obtain ⟨s,e0,_⟩:=DataW.trod_bool Tryz.underlying4 h0
  obtain ⟨xs,u⟩:=fC h1
  obtain ⟨A,c,rfl,hu⟩:=id u
  simp at e0
  exact ⟨s,A,c,xs,e0,rfl,u⟩
theorem ael {H:Type} {enc:TypeId × Value→H} {W:World} {base:Nat} {v:Value} {d:DataW H} {ps:List MemPlace} (hval:Value.okWide Tryz.prog W .any base 48 v) (h:DataW.Trod enc Tryz.prog W 0 (fun _=>true) true 48 v d ps) :
  ∃ (s:Bool) (A:Option Addr) (c:Nat) (xs:List Nat),v = .agg #[.bool s,.slice A xs.length c]∧U W (.slice A xs.length c) xs:=by
 obtain ⟨cs,rfl,hsz⟩:=okWide_struct Tryz.underlying48 hval
 rw [aiy] at hsz
 obtain ⟨l⟩:=cs
 match l,hsz with
 | [c0,c1],_ =>
  obtain ⟨fuel,hf⟩:=h
  obtain ⟨s,A,c,xs,rfl,rfl,u⟩:=aiA hf
  exact ⟨s,A,c,xs,rfl,u⟩
end Go.Proofs.YtfhcmggpojhegaaGreatDoor
namespace Go.Proofs.YtfhcmggpojhegaaGreatDoor
open Go.ChangeShapes Go.WideShapes Go.ChangeAt Go.RowKit
set_option linter.all false
set_option maxRecDepth 100000
set_option maxHeartbeats 8000000
theorem CX (os:Os) (started:os.Started) (H:Type) (enc:TypeId × Value→H) :
  ReturnsInHanded {} Tryz.checked os 7 .any (fun w args=>(Rows.topBezoutSpec.pre enc Tryz.prog Tryz.f7 [] false w args∧laidMetH Tryz.prog jo w)∧sizedMet enc Tryz.prog Tryz.f7 (OpenSpec.ofChange Rows.topBezoutSpec) false w args)
   (Rows.topBezoutSpec.post enc Tryz.prog Tryz.f7 false true false false):=by
 refine returnsInHanded_of_change_and (C:=Tryz.checked) (X:=fun w _=>laidMetH Tryz.prog jo w) (fun _ _ _ hh h=>h.of_heap hh) own started (by kernel_rfl) Tryz.func7
  (ChangeSpec.witness_shaped (enc:=enc) (C:=Tryz.checked) (os:=os) (X:=fun w _=>laidMetH Tryz.prog jo w) false (World.laidAll Tryz.prog os jo) #[.agg #[.slice none 0 0,.slice none 0 0],.agg #[.bool false,.slice none 0 0]] 8 (World.laidAll_os _ _ _) (World.shaped_of_ZipB (by kernel_rfl) (by kernel_rfl)) (by kernel_rfl) (by kernel_rfl) (by kernel_rfl) (qI os _)) ?_
 intro W base args ds gs before hval0 hW _ _ hL _
 have hval:∀ (j:Nat) t v,Tryz.f7.params[j]?=some t→args[j]?=some v→Value.okWide Tryz.prog W .any base t v:=hval0
 have hW':=hW
 obtain ⟨p,q,uo,hV,rfl,hfz,hnd⟩:=hW
 have hlt:∀ x∈p++q,x.block<W.heap.size:=fun x hx=>hW'.lt x hx
 have hA:DataW.TrodAll enc Tryz.prog W 0 (fun _=>true) true Tryz.f7.params.toList args.toList ds p:=uo
 rw [Tryz.params7] at hA hval
 clear uo hval0
 obtain ⟨v0,vs0,d0,ds0,p0,q0,Q6,rfl,rfl,h0,r0⟩:=trodAll_cons hA
 obtain ⟨v1,vs1,d1,ds1,p1,q1,Q7,rfl,rfl,h1,r1⟩:=trodAll_cons r0
 obtain ⟨hn1,rfl,rfl⟩:=trodAll_nil r1
 subst hn1
 subst Q7
 obtain rfl:args=#[v0,v1]:=by cases args;simp_all
 obtain ⟨rfl,rfl⟩:=trodVars_none hV
 obtain ⟨r0a,r0b,x0a,x0b,hv0,u0a,u0b⟩:=vU (hval 0 23 v0 rfl rfl) h0 (fun x hx=>hlt x (by simp [hx]))
 subst hv0
 obtain ⟨s1,A1,c1,x1,hv1,u1⟩:=ael (hval 1 48 v1 rfl rfl) h1
 subst hv1
 refine (G5 W _ _ u0a _ _ u0b s1 A1 c1 x1 u1).mono fun e W' ⟨he,hB⟩=>?_
 subst he
 exact ⟨_,rfl,qc hW' rfl (by rw [Tryz.params7];decide +kernel) rfl rfl rfl rfl hB⟩
theorem G8:Rows.TopBezoutSaid :=
 OpenClaim.holds_of_wide 7 Tryz.f7 rfl rfl rfl rfl rfl rfl rfl ⟨rfl,rfl,rfl,rfl,rfl⟩ rfl rfl rfl rfl rfl (by kernel_rfl) Tryz.func7 (by kernel_rfl)
  (of_decide_eq_true (by kernel_rfl)) (by unfold Func.isWrapper;first | (rw [if_pos (by decide +kernel)];kernel_rfl) | (rw [if_neg (by decide +kernel)];exact ⟨rfl,rfl⟩))
  (fun os started H enc _=>CX os started H enc)
theorem topBezout_holds:Rows.TopBezoutCardSaid :=
 Claim7.holds_tied_plain_at .later [] [.data,.wider,.pinned] true Rows.topBezoutCard.stood.harness false
  G8 (fun _ h=>by cases h) (by kernel_rfl) (fun _ h=>by cases h) topBezout_row_tie rfl ⟨rfl,rfl⟩ (by kernel_rfl) rfl
  (fun f fn hf hfn=>by
   obtain rfl:f = 7 := Option.some.inj ((show Tryz.prog.funcNamed "ziggurat/ziggurattop.TopBezout" = some 7 by kernel_rfl).symm.trans hf) |>.symm
   obtain rfl:fn=Tryz.f7 := (Option.some.inj (Tryz.func7.symm.trans hfn)).symm
   exact ⟨by kernel_rfl,fun j t ht=>by
    rw [Tryz.params7] at ht
    have hm:t∈[23,48]:=by simpa using Array.mem_of_getElem? ht
    have hall:([23,48].all fun u=>!Tryz.prog.wantsStandIn u)=true:=by kernel_rfl
    exact (show Tryz.prog.wantsStandIn t=false by simpa using List.all_eq_true.1 hall t hm)⟩)
  (by kernel_rfl)
end Go.Proofs.YtfhcmggpojhegaaGreatDoor
