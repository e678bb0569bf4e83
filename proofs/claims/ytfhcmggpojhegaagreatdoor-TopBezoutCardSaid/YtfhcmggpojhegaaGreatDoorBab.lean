/- Plain steps, as many as follow one another. -/
import Derived.Test.YtfhcmggpojhegaaGreatDoorBaa
import Derived.Deep.MidRow
import Derived.Deep.WholeRow
import Derived.Laws.CopyOwn
import Derived.WalkKit
import Derived.Laws.EntriesVeiled
import Derived.Deep.AppendSrc
import Derived.Lib.AppendZeros
import Derived.Laws.IdiomStrings
import Derived.Laws.StructEq

namespace Go.Proofs.YtfhcmggpojhegaaGreatDoor.Pl
open Go
set_option linter.all false
set_option maxRecDepth 100000
set_option maxHeartbeats 8000000
/-! Plain operations, as many as follow one another, by looking alone. -/
def Qi (l:List (Nat × Value)):Op→Option Value
 | .move x=>dF l x
 | .assign x=>dF l x
 | .pick c x y=>match dF l c with
  | some (.bool true)=>dF l x
  | some (.bool false)=>dF l y
  | _=>none
 | .extract x ix=>match dF l x with
  | some (.tuple t)=>t[ix]?
  | _=>none
 | _=>none
def plain (L:List Oper) (l:List (Nat × Value)) (o:Oper):Option Value:=match gd L l o.guard with
 | some true=>Qi l o.op
 | some false=>some undef
 | none=>none
def al0 (L:List Oper):List (Bool × Nat × Nat)→List (Nat × Value)→List (Bool × Nat × Nat) × List (Nat × Value)
 | [],l=>([],l)
 | (k,i,m)::r,l=>match nth L i with
  | none=>((k,i,m)::r,l)
  | some o=>match o.dst with
   | none=>((k,i,m)::r,l)
   | some d=>match plain L l o with
    | none=>((k,i,m)::r,l)
    | some v=>al0 L r ((d,v)::l)
section
variable {P:Program} {L:List Oper} {S:World→Prop} {K:List (Nat × Value)→World→Prop}
theorem Qj {l:List (Nat × Value)} {o:Oper} {v:Value} (h:Qi l o.op=some v) (ρ:Operand→Value) (hρ:Cons ρ l) (X:World):(execOp ρ o).run P X = .ok (.value v) X:=by
 unfold execOp
 cases ho:o.op<;>rw [ho] at h<;>simp only [Qi] at h<;>try (cases h;done)
 case move x=>show Result.ok (Next.value (ρ x)) X=_;rw [hρ.dF h]
 case assign x=>show Result.ok (Next.value (ρ x)) X=_;rw [hρ.dF h]
 case pick c x y =>
  split at h
  · next hc =>
    show (asBool (ρ c) >>= fun t=>pure (Next.value (if t then ρ x else ρ y))).run P X=_
    rw [hρ.dF hc,hρ.dF h |>.symm];rfl
  · next hc =>
    show (asBool (ρ c) >>= fun t=>pure (Next.value (if t then ρ x else ρ y))).run P X=_
    rw [hρ.dF hc,hρ.dF h |>.symm];rfl
  · cases h
 case extract x ix =>
  split at h
  · next hx=>exact fJ _ X (by rw [hρ.dF hx];simp [Instr.extract,h])
  · cases h
theorem TK:∀ (r:List (Bool × Nat × Nat)) (l:List (Nat × Value)) {w:World},S w→dO P L S K (al0 L r l).1 (al0 L r l).2 w→dO P L S K r l w
 | [],l,w,_,h=>h
 | (k,i,m)::r,l,w,hS,h=>by
  unfold al0 at h
  split at h
  · exact h
  · next o ho =>
    split at h
    · exact h
    · next d hd =>
      split at h
      · exact h
      · next v hv =>
        have ih:=TK r _ hS h
        unfold plain at hv
        split at hv
        · next hg=>exact dB hS ho hd hg (fun ρ hρ X _=>Qj hv ρ hρ X) ih
        · next hg=>cases hv;exact kW ho hd hg ih
        · cases hv
theorem aG {r r':List (Bool × Nat × Nat)} {l l':List (Nat × Value)} {w:World} (hS:S w) (e:al0 L r l=(r',l')) (h:dO P L S K r' l' w):dO P L S K r l w:=TK r l hS (by rw [e];exact h)
end
end Go.Proofs.YtfhcmggpojhegaaGreatDoor.Pl
/- Steps for any program: numbers, slices. -/
namespace Go.Proofs.YtfhcmggpojhegaaGreatDoor.Pl
open Go
set_option linter.all false
set_option maxRecDepth 100000
set_option maxHeartbeats 8000000
/-! Steps for any program: numbers, slices, memory. -/
theorem Ep {z:Int} (h1 : -9223372036854775808≤z) (h2:z≤9223372036854775807):IntKind.i64.wrap z=z:=by
 simp only [IntKind.wrap,IntKind.signed,IntKind.bits,Bool.true_and];simp;split<;>omega
theorem w8 {z:Int} (h1:0≤z) (h2:z<256):IntKind.u8.wrap z=z:=by
 simp only [IntKind.wrap,IntKind.signed,IntKind.bits];simp;omega
theorem w16 {z:Int} (h1:0≤z) (h2:z<65536):IntKind.u16.wrap z=z:=by
 simp only [IntKind.wrap,IntKind.signed,IntKind.bits];simp;omega
theorem wu64 {z:Int} (h1:0≤z) (h2:z<18446744073709551616):IntKind.u64.wrap z=z:=by
 simp only [IntKind.wrap,IntKind.signed,IntKind.bits];simp;omega
section
variable {P:Program} {T:TypeId} {x y:Operand} {k k':IntKind} {a b c:Int} {v:Bool}
abbrev Bn (P:Program) (op:BinOp) (T:TypeId) (x y:Operand) (u u':Value) (X:World):Result Value:=(do eqGuard op T x y u u';binOp op T u u':Sem Value).run P X
theorem XX (h:k.wrap (a+b)=c) (X:World):Bn P .add T x y (.int k a) (.int k b) X = .ok (.int k c) X:=by
 subst h;simp [Bn,eqGuard,binOp,Op.intArith]
theorem aft (h:k.wrap (a-b)=c) (X:World):Bn P .sub T x y (.int k a) (.int k b) X = .ok (.int k c) X:=by
 subst h;simp [Bn,eqGuard,binOp,Op.intArith]
theorem XY (h:k.wrap (a*b)=c) (X:World):Bn P .mul T x y (.int k a) (.int k b) X = .ok (.int k c) X:=by
 subst h;simp [Bn,eqGuard,binOp,Op.intArith]
theorem afu (h0:b≠0) (h:k.wrap (a.tdiv b)=c) (X:World):Bn P .quo T x y (.int k a) (.int k b) X = .ok (.int k c) X:=by
 subst h;simp [Bn,eqGuard,binOp,Op.intDiv,h0]
theorem gL (h:(a==b)=v) (X:World):Bn P .eql T x y (.int k a) (.int k b) X = .ok (.bool v) X:=by
 subst h;simp [Bn,eqGuard,binOp,Op.intCmp]
theorem JD (h:decide (a<b)=v) (X:World):Bn P .lss T x y (.int k a) (.int k b) X = .ok (.bool v) X:=by
 subst h;simp [Bn,eqGuard,binOp,Op.intCmp]
theorem oM (h:decide (b≤a)=v) (X:World):Bn P .geq T x y (.int k a) (.int k b) X = .ok (.bool v) X:=by
 subst h;simp [Bn,eqGuard,binOp,Op.intCmp]
theorem alT {n m:Nat} (hm:(m:Int)=b) (hk:m≤k.bits) (X:World):Bn P .shr T x y (.int k ((n:Nat):Int)) (.int k' b) X = .ok (.int k ((n/2^m:Nat):Int)) X:=by
 subst hm
 have e:((n:Int)).fdiv (2^m)=((n/2^m:Nat):Int):=by
  rw [Int.fdiv_eq_ediv_of_nonneg _ (by exact_mod_cast Nat.zero_le _)];push_cast;rfl
 have h0:¬ ((m:Int)<0):=by omega
 simp [Bn,eqGuard,binOp,Op.shift,h0,Nat.min_eq_left hk,e]
theorem alS {n m c:Nat} (hm:(m:Int)=b) (hk:m≤k.bits) (h:k.wrap ((n*2^m:Nat):Int)=((c:Nat):Int)) (X:World):Bn P .shl T x y (.int k ((n:Nat):Int)) (.int k' b) X = .ok (.int k ((c:Nat):Int)) X:=by
 subst hm
 have h0:¬ ((m:Int)<0):=by omega
 rw [← h]
 push_cast
 simp [Bn,eqGuard,binOp,Op.shift,h0,Nat.min_eq_left hk]
end
section
variable {P:Program} {T:TypeId} {x y:Operand} {a b c:Nat}
end
/-! Operations whose value follows from what is known alone. -/
def rho (l:List (Nat × Value)) (x:Operand):Value:=(dF l x).getD undef
def known (l:List (Nat × Value)):Op→Bool
 | .unOp _ _ x=>(dF l x).isSome
 | .binOp _ _ x y _=>(dF l x).isSome&&(dF l y).isSome
 | .convert _ _ x=>(dF l x).isSome
 | .makeInterface _ x=>(dF l x).isSome
 | .fieldAddr _ x _=>(dF l x).isSome
 | .field _ x _=>(dF l x).isSome
 | .index _ x y=>(dF l x).isSome&&(dF l y).isSome
 | .indexAddr _ x y=>(dF l x).isSome&&(dF l y).isSome
 | .extract x _=>(dF l x).isSome
 | .load _ x=>(dF l x).isSome
 | .alloc _=>true
 | .box _ x=>(dF l x).isSome
 | .store _ x y=>(dF l x).isSome&&(dF l y).isSome
 | .build _ ps=>ps.toList.all fun p=>(dF l p.2).isSome
 | .buildSlice _ _ ps=>ps.toList.all fun p=>(dF l p.2).isSome
 | .slice _ x lo hi mx=>(dF l x).isSome&&(lo.all fun z=>(dF l z).isSome)&&(hi.all fun z=>(dF l z).isSome)&&(mx.all fun z=>(dF l z).isSome)
 | .typeAssert x _ _ _=>(dF l x).isSome
 | _=>false
theorem jB {ρ:Operand→Value} {l:List (Nat × Value)} (h:Cons ρ l) {x:Operand} (hx:(dF l x).isSome=true):ρ x=rho l x:=by
 obtain ⟨v,hv⟩:=Option.isSome_iff_exists.1 hx
 rw [h.dF hv,rho,hv];rfl
theorem TL {ρ:Operand→Value} {l:List (Nat × Value)} (h:Cons ρ l) (ps:Array (Nat × Operand)) (hp:(ps.toList.all fun p=>(dF l p.2).isSome)=true):ps.map (fun (i,x)=>(i,ρ x))=ps.map (fun (i,x)=>(i,rho l x)):=by
 apply Array.map_congr_left
 intro p hm
 rw [List.all_eq_true] at hp
 show (p.1,ρ p.2)=(p.1,rho l p.2)
 rw [jB h (hp p (Array.mem_toList_iff.2 hm))]
theorem Lb {ρ:Operand→Value} {l:List (Nat × Value)} (h:Cons ρ l) {o:Option Operand} (hp:(o.all fun z=>(dF l z).isSome)=true):o.map ρ=o.map (rho l):=by
 cases o with
 | none=>rfl
 | some x=>simp only [Option.map_some];rw [jB h (by simpa using hp)]
theorem FN {ρ:Operand→Value} {l:List (Nat × Value)} (h:Cons ρ l) {o:Oper} (hk:known l o.op=true):execOp ρ o=execOp (rho l) o:=by
 unfold execOp
 cases ho:o.op<;>rw [ho] at hk<;>simp only [known,Bool.and_eq_true] at hk<;>try (cases hk;done)
 case unOp=>dsimp only;rw [jB h hk]
 case binOp=>dsimp only;rw [jB h hk.1,jB h hk.2]
 case convert=>dsimp only;rw [jB h hk]
 case makeInterface=>dsimp only;rw [jB h hk]
 case fieldAddr=>dsimp only;rw [jB h hk]
 case field=>dsimp only;rw [jB h hk]
 case index=>dsimp only;rw [jB h hk.1,jB h hk.2]
 case indexAddr=>dsimp only;rw [jB h hk.1,jB h hk.2]
 case extract=>dsimp only;rw [jB h hk]
 case load=>dsimp only;rw [jB h hk]
 case box=>dsimp only;rw [jB h hk]
 case store=>dsimp only;rw [jB h hk.1,jB h hk.2]
 case build=>dsimp only;rw [TL h _ hk]
 case buildSlice=>dsimp only;rw [TL h _ hk]
 case slice=>dsimp only;rw [jB h hk.1.1.1,Lb h hk.1.1.2,Lb h hk.1.2,Lb h hk.2]
 case typeAssert=>dsimp only;rw [jB h hk]
section
variable {P:Program} {L:List Oper} {S:World→Prop} {K:List (Nat × Value)→World→Prop} {k:Bool} {i m d:Nat} {o:Oper} {r:List (Bool × Nat × Nat)} {l:List (Nat × Value)} {w w':World} {v:Value}
theorem TJ (v:Value) (hS:S w) (ho:nth L i=some o) (hd:o.dst=some d) (hg:gd L l o.guard=some true) (hk:known l o.op=true) (he:∀ X,(execOp (rho l) o).run P X = .ok (.value v) X)
 (h:dO P L S K r ((d,v)::l) w):dO P L S K ((k,i,m)::r) l w:=dB hS ho hd hg (fun ρ hρ X _=>by rw [FN hρ hk];exact he X) h
theorem ahg (v:Value) (w':World) (ho:nth L i=some o) (hd:o.dst=some d) (hg:gd L l o.guard=some true) (hk:known l o.op=true) (he:(execOp (rho l) o).run P w = .ok (.value v) w') (hS:S w')
 (h:dO P L S K r ((d,v)::l) w'):dO P L S K ((false,i,m)::r) l w:=mh ho hd hg (fun ρ hρ=>by rw [FN hρ hk];exact he) hS h
theorem bV {x y:Operand} {op:BinOp} {tx ty:TypeId} {u u':Value} (hr:∀ X,Bn P op tx x y u u' X = .ok v X) (hS:S w) (ho:nth L i=some o) (hop:o.op = .binOp op tx x y ty) (hd:o.dst=some d) (hg:gd L l o.guard=some true) (hx:dF l x=some u) (hy:dF l y=some u')
 (h:dO P L S K r ((d,v)::l) w):dO P L S K ((k,i,m)::r) l w:=aN hS ho hop hd hg hx hy hr h
theorem mP {x:Operand} {s t:TypeId} {kd kd':IntKind} {a c:Int} (hu:P.underlying t=some (.int kd')) (hs:(P.underlying s).isSome=true) (h1:kd'.wrap a=c) (hS:S w) (ho:nth L i=some o) (hop:o.op = .convert s t x) (hd:o.dst=some d) (hg:gd L l o.guard=some true) (hx:dF l x=some (.int kd a))
  (h:dO P L S K r ((d,.int kd' c)::l) w):dO P L S K ((k,i,m)::r) l w :=
 dB hS ho hd hg (fun ρ hρ X _=>by
  obtain ⟨sd,hs⟩:=Option.isSome_iff_exists.1 hs
  unfold execOp;rw [hop]
  refine fJ _ X ?_
  rw [hρ.dF hx]
  subst h1
  simp [convert,run_underlying hs,run_underlying hu,Conv.intToInt]) h
theorem pY {x:Operand} {t e:TypeId} {A:Option Addr} {n c:Nat} (hu:P.underlying t=some (.slice e)) (hS:S w) (ho:nth L i=some o) (hop:o.op = .call { callee:=.builtin .len,args:=#[x],argTypes:=#[t] }) (hd:o.dst=some d) (hg:gd L l o.guard=some true) (hx:dF l x=some (.slice A n c))
  (h:dO P L S K r ((d,.int .i64 ((n:Nat):Int))::l) w):dO P L S K ((k,i,m)::r) l w :=
 dB hS ho hd hg (fun ρ hρ X _=>by
  obtain ⟨d',op',t',ps',awl,gu'⟩:=o
  cases hop
  have e:=hρ.dF hx
  simp [go_sem,e,Builtin.len_,run_underlying hu]) h
theorem ahh {ty:TypeId} {dd:TypeDesc} {a:Addr} {X:World} (hu:P.underlying ty=some dd) (hd:dd.isRow=false) (hc:X.cell? a=some v):(Instr.loadAt ty (.pointer (some a))).run P X = .ok v X:=by
 cases dd<;>first | (simp [TypeDesc.isRow] at hd;done) | simp [Instr.loadAt,Instr.sureAddr,loadVar,isAgg,run_underlying hu,hc,Result.andThen]
theorem oI {x:Operand} {ty:TypeId} {dd:TypeDesc} {a:Addr} (hu:P.underlying ty=some dd) (hd':dd.isRow=false) (hc:w.cell? a=some v) (hS:S w) (ho:nth L i=some o) (hop:o.op = .load ty x) (hd:o.dst=some d) (hg:gd L l o.guard=some true) (hx:dF l x=some (.pointer (some a)))
 (h:dO P L S K r ((d,v)::l) w):dO P L S K ((false,i,m)::r) l w:=aH hS ho hop hd hg hx (ahh hu hd' hc) h
end
end Go.Proofs.YtfhcmggpojhegaaGreatDoor.Pl
/- Memory: variables, slices that are read, rows that grow, what is kept. -/
namespace Go.Proofs.YtfhcmggpojhegaaGreatDoor.Pl
open Go Go.RowKit
set_option linter.all false
set_option maxRecDepth 100000
set_option maxHeartbeats 8000000
/-! Memory: variables, slices that are read, rows that grow, what is kept. -/
def Ex (a b:World):Prop:=Below a.heap.size a b
theorem Ex.refl (w:World):Ex w w:=Below.refl _ _
theorem Ex.trans {a b c:World} (h:Ex a b) (k:Ex b c):Ex a c:=Below.trans h (Below.mono k (Below.size h))
theorem Ex.size {a b:World} (h:Ex a b):a.heap.size≤b.heap.size:=Below.size h
theorem Ex.alloc (w:World) (x:Obj):Ex w (w.alloc x):=Below.alloc (Below.refl _ w) (Nat.le_refl _) x
theorem Ex.drew (w:World):Ex w w.drew:=Below.drew (Below.refl _ w)
structure Xs (Bs:List Nat) (w w':World):Prop where
 os:w'.os=w.os
 tape:w'.tape=w.tape
 output:w'.output=w.output
 size:w.heap.size≤w'.heap.size
 block:∀ k,k<w.heap.size→k∉Bs→w'.heap[k]?=w.heap[k]?
theorem Xs.trans {Bs:List Nat} {a b c:World} (h:Xs Bs a b) (k:Xs Bs b c):Xs Bs a c :=
 ⟨k.os.trans h.os,k.tape.trans h.tape,k.output.trans h.output,Nat.le_trans h.size k.size,fun i hi hn=>(k.block i (Nat.lt_of_lt_of_le hi h.size) hn).trans (h.block i hi hn)⟩
theorem Xs.drop {Bs Cs:List Nat} {w w':World} (h:Xs Bs w w') (hs:∀ k∈Bs,k∈Cs∨w.heap.size≤k):Xs Cs w w':=⟨h.os,h.tape,h.output,h.size,fun k hk hn=>h.block k hk fun hb=>by
 rcases hs k hb with h1 | h1
 · exact hn h1
 · omega⟩
theorem Ex.xs {w0 w w':World} {N:Nat} (h:Ex w0 w) (k:Xs [N] w w') (hN:w0.heap.size≤N):Ex w0 w' :=
 ⟨k.os.trans h.os,k.tape.trans h.tape,k.output.trans h.output,Nat.le_trans h.size k.size,fun i hi=>(k.block i (Nat.lt_of_lt_of_le hi h.size) (by simp;omega)).trans (h.block i hi)⟩
def Cb (w:World) (N:Nat) (T:TypeId) (cs:List Value):Prop:=w.heap[N]?=some (.cells cs.toArray T (0,0))
theorem Cb.lt {w:World} {N:Nat} {T:TypeId} {cs:List Value} (h:Cb w N T cs):N<w.heap.size:=(Array.getElem?_eq_some_iff.1 h).1
theorem Cb.ex {w w':World} {N:Nat} {T:TypeId} {cs:List Value} (h:Cb w N T cs) (k:Ex w w'):Cb w' N T cs:=(k.block N h.lt).trans h
theorem Cb.xs {w w':World} {N:Nat} {T:TypeId} {cs:List Value} {Bs:List Nat} (h:Cb w N T cs) (k:Xs Bs w w') (hn:N∉Bs):Cb w' N T cs:=(k.block N h.lt hn).trans h
theorem Cb.new (w:World) (T:TypeId) (cs:List Value):Cb (w.alloc (.cells cs.toArray T)) w.heap.size T cs:=_root_.Go.heap_alloc_new w _
theorem Cb.at {w:World} {N:Nat} {T:TypeId} {cs:List Value} {v:Value} (h:Cb w N T cs) {j:Nat} (hj:cs[j]?=some v):w.cell? ⟨N,j,none⟩=some v:=by
 rw [cell_of_row w N j cs.toArray T (0,0) h];simpa using hj
theorem Cb.put {w:World} {N:Nat} {T:TypeId} {cs:List Value} (h:Cb w N T cs) (new:List Value):Cb (w.setRow N new.toArray) N T new:=setRow_heap w N _ _ T _ h
theorem Xs.put (w:World) (N:Nat) (new:Array Value):Xs [N] w (w.setRow N new):=⟨by simp,by simp,by simp,by simp,fun k _ hn=>setRow_other w N k new (by simpa using hn)⟩
section
variable {P:Program}
theorem Cb.load {w:World} {N:Nat} {T:TypeId} {cs:List Value} (h:Cb w N T cs) {o:Nat} {part:List Value} (hp:(cs.drop o).take part.length=part) {ty:TypeId} {d:TypeDesc} (hu:P.underlying ty=some d) (hd:d.isRow=true) (hi:(P.info? ty).map (·.size)=some part.length) :
  (Instr.loadAt ty (.pointer (some ⟨N,o,none⟩))).run P w = .ok (.agg part.toArray) w :=
 run_loadAt_mid w N o ty part d (by
  have:=World.rangeAt_of_block h o part.length
  have e:(cs.toArray.extract o (o+part.length)).toList=part:=by
   rw [Array.toList_extract,List.extract_eq_take_drop,Nat.add_sub_cancel_left];exact hp
  rwa [e] at this) hu hd hi
theorem Cb.store {w:World} {N:Nat} {T:TypeId} {cs:List Value} (h:Cb w N T cs) {ty:TypeId} {new:List Value} (hi:(P.info? ty).map (·.size)=some new.length) (hl:cs.length=new.length) (h1:∀ v∈new,v.oneCell'=true) :
  (Instr.storeAt ty (.pointer (some ⟨N,0,none⟩)) (.agg new.toArray)).run P w = .ok () (w.setRow N new.toArray):=by
 simp only [Instr.storeAt,Instr.sureAddr,Sem.run_bind,Sem.run_pure,Result.andThen_ok]
 exact run_storeVar_row w N T ty cs.toArray new.toArray h (by simpa using hi) (by simpa using hl) (all_oneCell_toArray h1)
end
theorem Cb.set {w:World} {N:Nat} {T:TypeId} {cs:List Value} (h:Cb w N T cs) (j:Nat) (v:Value):Cb (w.setCell ⟨N,j,none⟩ v) N T (cs.set j v):=by
 have:=heap_setCell_same w N j _ _ v h
 unfold Cb
 rw [this,List.setIfInBounds_toArray]
theorem Xs.set (w:World) (N j:Nat) (v:Value):Xs [N] w (w.setCell ⟨N,j,none⟩ v):=⟨by simp [World.setCell],by simp [World.setCell],by simp [World.setCell],by simp [World.setCell],fun k _ hn=>Below.heap_setCell w ⟨N,j,none⟩ v k (by simpa using hn)⟩
def Sl (w:World) (lo:Nat) (v:Value) (n:Nat) (xs:List Value):Prop:=∃ A c,v = .slice A n c∧n≤c∧c≤9223372036854775807 ∧
 (0<xs.length→∃ ad,A=some ad∧lo≤ad.block∧ad.block<w.heap.size∧∀ j u,xs[j]?=some u→w.cell? (ad.add j)=some u)
theorem Sl.sh {w:World} {lo n:Nat} {v:Value} {xs:List Value} (h:Sl w lo v n xs):∃ A c,v = .slice A n c∧n≤c∧c≤9223372036854775807:=by
 obtain ⟨A,c,h1,h2,h3,_⟩:=h;exact ⟨A,c,h1,h2,h3⟩
theorem Sl.xs {w w':World} {lo n:Nat} {v:Value} {xs:List Value} {Bs:List Nat} (h:Sl w lo v n xs) (k:Xs Bs w w') (hB:∀ b∈Bs,b<lo∨w.heap.size≤b):Sl w' lo v n xs:=by
 obtain ⟨A,c,h1,h2,h3,h4⟩:=h
 refine ⟨A,c,h1,h2,h3,fun h0=>?_⟩
 obtain ⟨ad,e,hl,hb,hc⟩:=h4 h0
 refine ⟨ad,e,hl,Nat.lt_of_lt_of_le hb k.size,fun j u hj=>?_⟩
 rw [← hc j u hj]
 refine World.cell?_of_block (k.block _ (by rw [Nv];exact hb) ?_)
 intro hm
 rw [Nv] at hm
 rcases hB _ hm with h5 | h5<;>omega
where Nv {a:Addr} {j:Nat}:(a.add j).block=a.block:=by unfold Addr.add;split<;>rfl
theorem Sl.mono {w:World} {lo lo' n:Nat} {v:Value} {xs:List Value} (h:Sl w lo v n xs) (hl:lo'≤lo):Sl w lo' v n xs:=by
 obtain ⟨A,c,h1,h2,h3,h4⟩:=h
 exact ⟨A,c,h1,h2,h3,fun h0=>by obtain ⟨ad,e,hl',hb,hc⟩:=h4 h0;exact ⟨ad,e,Nat.le_trans hl hl',hb,hc⟩⟩
theorem Sl.nil (w:World) (lo:Nat):Sl w lo (.slice none 0 0) 0 []:=⟨none,0,rfl,Nat.le_refl _,by omega,fun h=>absurd h (by simp)⟩
theorem Sl.at {w:World} {lo n c:Nat} {A:Option Addr} {xs:List Value} (h:Sl w lo (.slice A n c) n xs) {j:Nat} {u:Value} (hj:xs[j]?=some u):∃ ad,A=some ad∧w.cell? (ad.add j)=some u:=by
 obtain ⟨A',c',h1,h2,h3,h4⟩:=h
 cases h1
 obtain ⟨ad,e,_,_,hc⟩:=h4 (by have:=(List.getElem?_eq_some_iff.1 hj).1;omega)
 exact ⟨ad,e,hc j u hj⟩
section
variable {P:Program} {ok:Value→Prop} {w w':World} {base:Nat} {e:TypeId} {size:Nat} {v:Value} {n:Nat} {xs:List Value}
theorem Gr.sl (h:Gr ok w base e size v n xs) (hm:n≤9223372036854775807):Sl w base v n xs:=by
 rcases h.2 with ⟨rfl,rfl⟩ | ⟨g,cap,cur,rfl,hb,hgg,hnc,hcm,hcs,htake,hok⟩
 · refine ⟨none,0,rfl,Nat.le_refl _,by omega,fun h0=>?_⟩
   have:=h.1;omega
 · refine ⟨_,cap,rfl,hnc,by unfold maxLen at hcm;omega,fun h0=>⟨_,rfl,hb,(Array.getElem?_eq_some_iff.1 hgg).1,fun j u hj=>h.own.cells (g:=g) rfl j u hj⟩⟩
theorem Gr.keep {Bs:List Nat} (h:Gr ok w base e size v n xs) (k:Xs Bs w w') (hn:∀ g,v.ownBlock=some g→g∉Bs):Gr ok w' base e size v n xs:=by
 refine ⟨h.1,?_⟩
 rcases h.2 with hn | ⟨g,cap,cur,rfl,hb,hgg,rest⟩
 · exact .inl hn
 · refine .inr ⟨g,cap,cur,rfl,hb,?_,rest⟩
   rw [k.block g (Array.getElem?_eq_some_iff.1 hgg).1 (hn g rfl)]
   exact hgg
theorem Gr.lies (h:Gr ok w base e size v n xs):∀ g,v.ownBlock=some g→base≤g∧g<w.heap.size:=by
 intro g hg
 rcases h.2 with ⟨rfl,_⟩ | ⟨g',cap,cur,rfl,hb,hgg,_⟩
 · simp [Value.ownBlock] at hg
 · simp [Value.ownBlock] at hg
   subst hg
   exact ⟨hb,(Array.getElem?_eq_some_iff.1 hgg).1⟩
end
section
variable {P:Program} {L:List Oper} {S:World→Prop} {K:List (Nat × Value)→World→Prop} {k:Bool} {i m d:Nat} {o:Oper} {x y:Operand} {r:List (Bool × Nat × Nat)} {l:List (Nat × Value)} {w w':World} {v:Value}
theorem fZ {T:TypeId} {z:Value} (hz:(P.info? T).map (fun i=>i.zero)=some (some z)) (ho:nth L i=some o) (hp:o.op = .alloc T) (hd:o.dst=some d) (hg:gd L l o.guard=some true) (hS:∀ Y,Ex w Y→S Y)
  (h:∀ N w',Ex w w'→N=w.heap.size→Cb w' N T z.cells.toList→dO P L S K r ((d,.pointer (some ⟨N,0,none⟩))::l) w'):dO P L S K ((false,i,m)::r) l w:=by
 have e1:=Ex.alloc w (.cells z.cells T)
 have h0:(zeroValue T).run P w = .ok z w:=by
  cases hq:P.info? T with
  | none=>simp [hq] at hz
  | some i=>simp [hq] at hz;simp [zeroValue,typeInfo,hq,hz]
 refine sM ho hp hd hg (w':=w.alloc (.cells z.cells T)) (by simp [Instr.alloc,Sem.run_bind,h0,newVar,newRow]) (hS _ e1) (h _ _ e1 rfl ?_)
 have:=Cb.new w T z.cells.toList
 simpa using this
theorem uR {e:TypeId} {n:Nat} (cs:List Value) (ho:nth L i=some o) (hd:o.dst=some d) (hg:gd L l o.guard=some true) (hk:known l o.op=true)
  (he:(execOp (rho l) o).run P w = .ok (.value (.slice (some ⟨w.heap.size,0,none⟩) n n)) (w.alloc (.cells cs.toArray e))) (hS:∀ Y,Ex w Y→S Y)
  (h:∀ N w',Ex w w'→N=w.heap.size→Cb w' N e cs→dO P L S K r ((d,.slice (some ⟨N,0,none⟩) n n)::l) w'):dO P L S K ((false,i,m)::r) l w :=
 ahg _ _ ho hd hg hk he (hS _ (Ex.alloc w _)) (h _ _ (Ex.alloc w _) rfl (Cb.new w e cs))
theorem eP {N:Nat} {T ty:TypeId} {cs new:List Value} (hC:Cb w N T cs) (hi:(P.info? ty).map (·.size)=some new.length) (hl:cs.length=new.length) (h1:∀ v∈new,v.oneCell'=true) (ho:nth L i=some o) (hp:o.op = .store ty x y) (hd:o.dst=none) (hg:gd L l o.guard=some true) (hx:dF l x=some (.pointer (some ⟨N,0,none⟩))) (hy:dF l y=some (.agg new.toArray))
  (hS:∀ Y,Xs [N] w Y→S Y) (h:∀ w',Xs [N] w w'→Cb w' N T new→dO P L S K r l w'):dO P L S K ((false,i,m)::r) l w :=
 aW ho hp hd hg hx hy (hC.store hi hl h1) (hS _ (Xs.put w N _)) (h _ (Xs.put w N _) (hC.put new))
end
end Go.Proofs.YtfhcmggpojhegaaGreatDoor.Pl
