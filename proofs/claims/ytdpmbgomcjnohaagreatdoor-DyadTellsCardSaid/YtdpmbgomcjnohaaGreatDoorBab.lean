/- A row of structs that grows. -/
import Derived.Test.YtdpmbgomcjnohaaGreatDoorBaa
import Derived.Laws.AppendOwn
import Derived.Below
import Derived.Deep.MidRow
import Derived.Deep.WholeRow
import Derived.Laws.CopyOwn
import Derived.WalkKit
import Derived.Laws.EntriesVeiled
import Derived.Deep.AppendSrc
import Derived.Lib.AppendZeros
import Derived.Laws.IdiomStrings
import Derived.Laws.StructEq
import Derived.RangeFuncSeq
import Derived.RangeFuncLeaves
import Derived.OrdersIn
import Derived.TacticsIn

namespace Go.Proofs.YtdpmbgomcjnohaaGreatDoor.Pl
open Go
set_option linter.all false
set_option maxRecDepth 100000
set_option maxHeartbeats 8000000
section
variable {P:Program} {L:List Oper} {S:World→Prop} {K:List (Nat × Value)→World→Prop} {k:Bool} {i m d:Nat} {o:Oper} {r:List (Bool × Nat × Nat)} {l:List (Nat × Value)} {w w':World} {v:Value}
theorem oC {f:FuncId} {t:Operand} {xs:List Operand} {ats:Array TypeId} {fs vs cap:List Value} (ho:nth L i=some o) (hop:o.op = .call { callee:=.value t,args:=xs.toArray,argTypes:=ats }) (hd:o.dst=some d)
  (hg:gd L l o.guard=some true) (ht:dA l t=some (.func (.func f) fs.toArray cap.toArray)) (hx:uH l xs=some vs) (hf:∀ (u:Array Value) X,(callFunc f u).run P X = .ok (.enter f u) X)
  (hc:Calls P f (fs++(vs++cap)).toArray w (fun e w'=>∃ v,e = .returned v∧S w'∧gM P L S K r ((d,v)::l) w')):gM P L S K ((false,i,m)::r) l w :=
 ⟨o,ho,.inr (.inr (.inl ⟨d,f,(fs++(vs++cap)).toArray,rfl,hd,hg,fun ρ hρ=>by
  unfold execOp
  rw [hop]
  show (resolve ρ _ _ >>= fun d=>invoke d.target d.args).run P w=_
  unfold resolve
  show (Deferred.ofValue (ρ t) (xs.toArray.map ρ) >>= fun d=>invoke d.target d.args).run P w=_
  rw [hρ.dA ht]
  show (callFunc f ((fs.toArray++xs.toArray.map ρ)++cap.toArray)).run P w=_
  have e:(fs.toArray++xs.toArray.map ρ)++cap.toArray=(fs++(vs++cap)).toArray:=by rw [← hρ.uH hx];simp
  rw [e]
  exact hf _ w,hc⟩))⟩
theorem uu {f:FuncId} {fst cap:List Operand} {fs vs:List Value} (hS:S w) (ho:nth L i=some o) (hop:o.op = .makeFunc (.func f) fst.toArray cap.toArray) (hd:o.dst=some d) (hg:gd L l o.guard=some true) (hf:uH l fst=some fs) (hx:uH l cap=some vs)
  (h:gM P L S K r ((d,.func (.func f) fs.toArray vs.toArray)::l) w):gM P L S K ((k,i,m)::r) l w :=
 iC hS ho hd hg (fun ρ hρ X _=>by
  unfold execOp;rw [hop]
  refine dK _ X ?_
  have e:cap.toArray.map ρ=vs.toArray:=by rw [← hρ.uH hx];simp
  have e1:fst.toArray.map ρ=fs.toArray:=by rw [← hρ.uH hf];simp
  show (Instr.makeFunc (.func f) (fst.toArray.map ρ) (cap.toArray.map ρ)).run P X=_
  rw [e,e1]
  simp [Instr.makeFunc]) h
end
theorem nM {P:Program} {n:Nat} {l:List (Nat × Value)} {w:World} {fn:Func} {R:Ending→World→Prop} (hr:fn.results=#[]) (h:R (.returned (.tuple #[])) w):V P (bodyPost P fn R) n [] [] l w:=fun a ha=>by
 refine ⟨ha.defers,.tuple #[],?_,h⟩
 unfold results
 rw [hr]
 simp
def Gr (ok:Value→Prop) (w:World) (base:Nat) (e:TypeId) (size:Nat) (v:Value) (n:Nat) (xs:List Value):Prop :=
 xs.length=n*size∧((v = .slice none 0 0∧n=0) ∨
  ∃ g cap cur,v = .slice (some ⟨g,0,none⟩) n cap∧base≤g∧w.heap[g]?=some (.cells cur e (0,0))∧n≤cap∧cap≤maxLen∧cur.size=cap*size∧cur.toList.take (n*size)=xs∧∀ c∈cur.toList,ok c)
section
variable {P:Program} {ok:Value→Prop} {w w':World} {base:Nat} {e:TypeId} {size:Nat} {v:Value} {n:Nat} {xs:List Value}
theorem Gr.nil:Gr ok w base e size (.slice none 0 0) 0 []:=⟨by simp,.inl ⟨rfl,rfl⟩⟩
theorem Gr.own (h:Gr ok w base e size v n xs):w.ownsRow base e size v n xs:=⟨h.1,h.2.imp id fun ⟨g,cap,cur,h1,h2,h3,h4,h5,h6,h7,_⟩=>⟨g,cap,cur,h1,h2,h3,h4,h5,h6,h7⟩⟩
theorem Gr.kept {row:Option Nat} (h:Gr ok w base e size v n xs) (hg:w.grownBy w' row) (hne:v.ownBlock=none∨v.ownBlock≠row):Gr ok w' base e size v n xs:=by
 refine ⟨h.1,?_⟩
 rcases h.2 with hn | ⟨g,cap,cur,rfl,hb,hgg,rest⟩
 · exact .inl hn
 · refine .inr ⟨g,cap,cur,rfl,hb,?_,rest⟩
   rw [hg.block g (Array.getElem?_eq_some_iff.1 hgg).1 (by simpa [Value.ownBlock] using hne)]
   exact hgg
theorem Gr.made (w:World) (base:Nat) (e:TypeId) (size n:Nat) (cur:List Value) (hb:base≤w.heap.size) (hs:cur.length=n*size) (hm:n≤maxLen) (hok:∀ c∈cur,ok c):Gr ok (w.alloc (.cells cur.toArray e)) base e size (.slice (some ⟨w.heap.size,0,none⟩) n n) n cur :=
 ⟨hs,.inr ⟨w.heap.size,n,cur.toArray,rfl,hb,_root_.Go.heap_alloc_new w _,Nat.le_refl _,hm,by simpa using hs,by rw [← hs];simp,by simpa using hok⟩⟩
end
end Go.Proofs.YtdpmbgomcjnohaaGreatDoor.Pl
/- Plain steps, as many as follow one another. -/
namespace Go.Proofs.YtdpmbgomcjnohaaGreatDoor.Pl
open Go
set_option linter.all false
set_option maxRecDepth 100000
set_option maxHeartbeats 8000000
def bE (l:List (Nat × Value)):Op→Option Value
 | .move x=>dA l x
 | .assign x=>dA l x
 | .pick c x y=>match dA l c with
  | some (.bool true)=>dA l x
  | some (.bool false)=>dA l y
  | _=>none
 | .extract x ix=>match dA l x with
  | some (.tuple t)=>t[ix]?
  | _=>none
 | _=>none
def plain (L:List Oper) (l:List (Nat × Value)) (o:Oper):Option Value:=match gd L l o.guard with
 | some true=>bE l o.op
 | some false=>some undef
 | none=>none
def ZX (L:List Oper):List (Bool × Nat × Nat)→List (Nat × Value)→List (Bool × Nat × Nat) × List (Nat × Value)
 | [],l=>([],l)
 | (k,i,m)::r,l=>match nth L i with
  | none=>((k,i,m)::r,l)
  | some o=>match o.dst with
   | none=>((k,i,m)::r,l)
   | some d=>match plain L l o with
    | none=>((k,i,m)::r,l)
    | some v=>ZX L r ((d,v)::l)
section
variable {P:Program} {L:List Oper} {S:World→Prop} {K:List (Nat × Value)→World→Prop}
theorem Kw {l:List (Nat × Value)} {o:Oper} {v:Value} (h:bE l o.op=some v) (ρ:Operand→Value) (hρ:Cons ρ l) (X:World):(execOp ρ o).run P X = .ok (.value v) X:=by
 unfold execOp
 cases ho:o.op<;>rw [ho] at h<;>simp only [bE] at h<;>try (cases h;done)
 case move x=>show Result.ok (Next.value (ρ x)) X=_;rw [hρ.dA h]
 case assign x=>show Result.ok (Next.value (ρ x)) X=_;rw [hρ.dA h]
 case pick c x y =>
  split at h
  · next hc =>
    show (asBool (ρ c) >>= fun t=>pure (Next.value (if t then ρ x else ρ y))).run P X=_
    rw [hρ.dA hc,hρ.dA h |>.symm];rfl
  · next hc =>
    show (asBool (ρ c) >>= fun t=>pure (Next.value (if t then ρ x else ρ y))).run P X=_
    rw [hρ.dA hc,hρ.dA h |>.symm];rfl
  · cases h
 case extract x ix =>
  split at h
  · next hx=>exact dK _ X (by rw [hρ.dA hx];simp [Instr.extract,h])
  · cases h
theorem Mw:∀ (r:List (Bool × Nat × Nat)) (l:List (Nat × Value)) {w:World},S w→gM P L S K (ZX L r l).1 (ZX L r l).2 w→gM P L S K r l w
 | [],l,w,_,h=>h
 | (k,i,m)::r,l,w,hS,h=>by
  unfold ZX at h
  split at h
  · exact h
  · next o ho =>
    split at h
    · exact h
    · next d hd =>
      split at h
      · exact h
      · next v hv =>
        have ih:=Mw r _ hS h
        unfold plain at hv
        split at hv
        · next hg=>exact iC hS ho hd hg (fun ρ hρ X _=>Kw hv ρ hρ X) ih
        · next hg=>cases hv;exact Fv ho hd hg ih
        · cases hv
theorem aG {r r':List (Bool × Nat × Nat)} {l l':List (Nat × Value)} {w:World} (hS:S w) (e:ZX L r l=(r',l')) (h:gM P L S K r' l' w):gM P L S K r l w:=Mw r l hS (by rw [e];exact h)
end
end Go.Proofs.YtdpmbgomcjnohaaGreatDoor.Pl
/- Steps for any program: numbers, slices. -/
namespace Go.Proofs.YtdpmbgomcjnohaaGreatDoor.Pl
open Go
set_option linter.all false
set_option maxRecDepth 100000
set_option maxHeartbeats 8000000
theorem Oy {z:Int} (h1 : -9223372036854775808≤z) (h2:z≤9223372036854775807):IntKind.i64.wrap z=z:=by
 simp only [IntKind.wrap,IntKind.signed,IntKind.bits,Bool.true_and];simp;split<;>omega
theorem w8 {z:Int} (h1:0≤z) (h2:z<256):IntKind.u8.wrap z=z:=by
 simp only [IntKind.wrap,IntKind.signed,IntKind.bits];simp;omega
theorem ZY {z:Int}:IntKind.u32.wrap z=z%4294967296:=by
 simp only [IntKind.wrap,IntKind.signed,IntKind.bits];simp
section
variable {P:Program} {T:TypeId} {x y:Operand} {k k':IntKind} {a b c:Int} {v:Bool}
abbrev Bn (P:Program) (op:BinOp) (T:TypeId) (x y:Operand) (u u':Value) (X:World):Result Value:=(do eqGuard op T x y u u';binOp op T u u':Sem Value).run P X
theorem VK (h:k.wrap (a+b)=c) (X:World):Bn P .add T x y (.int k a) (.int k b) X = .ok (.int k c) X:=by
 subst h;simp [Bn,eqGuard,binOp,Op.intArith]
theorem ZZ (h:k.wrap (a-b)=c) (X:World):Bn P .sub T x y (.int k a) (.int k b) X = .ok (.int k c) X:=by
 subst h;simp [Bn,eqGuard,binOp,Op.intArith]
theorem Z0 (h:k.wrap (a*b)=c) (X:World):Bn P .mul T x y (.int k a) (.int k b) X = .ok (.int k c) X:=by
 subst h;simp [Bn,eqGuard,binOp,Op.intArith]
theorem gW (h:(a==b)=v) (X:World):Bn P .eql T x y (.int k a) (.int k b) X = .ok (.bool v) X:=by
 subst h;simp [Bn,eqGuard,binOp,Op.intCmp]
theorem Mx (h:(a != b)=v) (X:World):Bn P .neq T x y (.int k a) (.int k b) X = .ok (.bool v) X:=by
 subst h;simp [Bn,eqGuard,binOp,Op.intCmp]
theorem G7 (h:decide (a<b)=v) (X:World):Bn P .lss T x y (.int k a) (.int k b) X = .ok (.bool v) X:=by
 subst h;simp [Bn,eqGuard,binOp,Op.intCmp]
theorem Bw (h:decide (b<a)=v) (X:World):Bn P .gtr T x y (.int k a) (.int k b) X = .ok (.bool v) X:=by
 subst h;simp [Bn,eqGuard,binOp,Op.intCmp]
theorem VN (h:decide (b≤a)=v) (X:World):Bn P .geq T x y (.int k a) (.int k b) X = .ok (.bool v) X:=by
 subst h;simp [Bn,eqGuard,binOp,Op.intCmp]
theorem Z4 {n m:Nat} (hm:(m:Int)=b) (hk:m≤k.bits) (X:World):Bn P .shr T x y (.int k ((n:Nat):Int)) (.int k' b) X = .ok (.int k ((n/2^m:Nat):Int)) X:=by
 subst hm
 have e:((n:Int)).fdiv (2^m)=((n/2^m:Nat):Int):=by
  rw [Int.fdiv_eq_ediv_of_nonneg _ (by exact_mod_cast Nat.zero_le _)];push_cast;rfl
 have h0:¬ ((m:Int)<0):=by omega
 simp [Bn,eqGuard,binOp,Op.shift,h0,Nat.min_eq_left hk,e]
end
section
variable {P:Program} {T:TypeId} {x y:Operand} {a b c:Nat}
theorem XJ (op:BinOp) (h:op = .and∨op = .or∨op = .xor) (k:IntKind) (hs:k.signed=false) (ha:a<2^k.bits) (hb:b<2^k.bits) (f:Nat→Nat→Nat)
  (hf:(op = .and→f=(·&&&·))∧(op = .or→f=(·|||·))∧(op = .xor→f=(·^^^·))) (X:World):Bn P op T x y (.int k (a:Int)) (.int k (b:Int)) X = .ok (.int k ((f a b:Nat):Int)) X:=by
 have ea:(BitVec.ofInt k.bits (a:Int)).toNat=a:=by rw [BitVec.ofInt_natCast,BitVec.toNat_ofNat,Nat.mod_eq_of_lt ha]
 have eb:(BitVec.ofInt k.bits (b:Int)).toNat=b:=by rw [BitVec.ofInt_natCast,BitVec.toNat_ofNat,Nat.mod_eq_of_lt hb]
 have hw:∀ n:Nat,n<2^k.bits→k.wrap (n:Int)=(n:Int):=fun n hn=>by
  have h2:((n:Int))%(2^k.bits:Int)=(n:Int):=Int.emod_eq_of_lt (by omega) (by exact_mod_cast hn)
  simp [IntKind.wrap,hs,h2]
 rcases h with rfl | rfl | rfl
 · rw [hf.1 rfl]
   simp only [Bn,eqGuard,binOp,Op.intBits]
   simp [Nat.mod_eq_of_lt ha,Nat.mod_eq_of_lt hb,hw _ (Nat.lt_of_le_of_lt Nat.and_le_left ha)]
 · rw [hf.2.1 rfl]
   simp only [Bn,eqGuard,binOp,Op.intBits]
   simp [Nat.mod_eq_of_lt ha,Nat.mod_eq_of_lt hb,hw _ (Nat.or_lt_two_pow ha hb)]
 · rw [hf.2.2 rfl]
   simp only [Bn,eqGuard,binOp,Op.intBits]
   simp [Nat.mod_eq_of_lt ha,Nat.mod_eq_of_lt hb,hw _ (Nat.xor_lt_two_pow ha hb)]
end
def L9 (l:List (Nat × Value)) (x:Operand):Value:=(dA l x).getD undef
def known (l:List (Nat × Value)):Op→Bool
 | .unOp _ _ x=>(dA l x).isSome
 | .binOp _ _ x y _=>(dA l x).isSome&&(dA l y).isSome
 | .convert _ _ x=>(dA l x).isSome
 | .makeInterface _ x=>(dA l x).isSome
 | .fieldAddr _ x _=>(dA l x).isSome
 | .field _ x _=>(dA l x).isSome
 | .index _ x y=>(dA l x).isSome&&(dA l y).isSome
 | .indexAddr _ x y=>(dA l x).isSome&&(dA l y).isSome
 | .extract x _=>(dA l x).isSome
 | .load _ x=>(dA l x).isSome
 | .alloc _=>true
 | .box _ x=>(dA l x).isSome
 | .store _ x y=>(dA l x).isSome&&(dA l y).isSome
 | .build _ ps=>ps.toList.all fun p=>(dA l p.2).isSome
 | .buildSlice _ _ ps=>ps.toList.all fun p=>(dA l p.2).isSome
 | .slice _ x lo hi mx=>(dA l x).isSome&&(lo.all fun z=>(dA l z).isSome)&&(hi.all fun z=>(dA l z).isSome)&&(mx.all fun z=>(dA l z).isSome)
 | .typeAssert x _ _ _=>(dA l x).isSome
 | _=>false
theorem iT {ρ:Operand→Value} {l:List (Nat × Value)} (h:Cons ρ l) {x:Operand} (hx:(dA l x).isSome=true):ρ x=L9 l x:=by
 obtain ⟨v,hv⟩:=Option.isSome_iff_exists.1 hx
 rw [h.dA hv,L9,hv];rfl
theorem MB {ρ:Operand→Value} {l:List (Nat × Value)} (h:Cons ρ l) (ps:Array (Nat × Operand)) (hp:(ps.toList.all fun p=>(dA l p.2).isSome)=true):ps.map (fun (i,x)=>(i,ρ x))=ps.map (fun (i,x)=>(i,L9 l x)):=by
 apply Array.map_congr_left
 intro p hm
 rw [List.all_eq_true] at hp
 show (p.1,ρ p.2)=(p.1,L9 l p.2)
 rw [iT h (hp p (Array.mem_toList_iff.2 hm))]
theorem Fw {ρ:Operand→Value} {l:List (Nat × Value)} (h:Cons ρ l) {o:Option Operand} (hp:(o.all fun z=>(dA l z).isSome)=true):o.map ρ=o.map (L9 l):=by
 cases o with
 | none=>rfl
 | some x=>simp only [Option.map_some];rw [iT h (by simpa using hp)]
theorem ku {ρ:Operand→Value} {l:List (Nat × Value)} (h:Cons ρ l) {o:Oper} (hk:known l o.op=true):execOp ρ o=execOp (L9 l) o:=by
 unfold execOp
 cases ho:o.op<;>rw [ho] at hk<;>simp only [known,Bool.and_eq_true] at hk<;>try (cases hk;done)
 case unOp=>dsimp only;rw [iT h hk]
 case binOp=>dsimp only;rw [iT h hk.1,iT h hk.2]
 case convert=>dsimp only;rw [iT h hk]
 case makeInterface=>dsimp only;rw [iT h hk]
 case fieldAddr=>dsimp only;rw [iT h hk]
 case field=>dsimp only;rw [iT h hk]
 case index=>dsimp only;rw [iT h hk.1,iT h hk.2]
 case indexAddr=>dsimp only;rw [iT h hk.1,iT h hk.2]
 case extract=>dsimp only;rw [iT h hk]
 case load=>dsimp only;rw [iT h hk]
 case box=>dsimp only;rw [iT h hk]
 case store=>dsimp only;rw [iT h hk.1,iT h hk.2]
 case build=>dsimp only;rw [MB h _ hk]
 case buildSlice=>dsimp only;rw [MB h _ hk]
 case slice=>dsimp only;rw [iT h hk.1.1.1,Fw h hk.1.1.2,Fw h hk.1.2,Fw h hk.2]
 case typeAssert=>dsimp only;rw [iT h hk]
section
variable {P:Program} {L:List Oper} {S:World→Prop} {K:List (Nat × Value)→World→Prop} {k:Bool} {i m d:Nat} {o:Oper} {r:List (Bool × Nat × Nat)} {l:List (Nat × Value)} {w w':World} {v:Value}
theorem aL (v:Value) (hS:S w) (ho:nth L i=some o) (hd:o.dst=some d) (hg:gd L l o.guard=some true) (hk:known l o.op=true) (he:∀ X,(execOp (L9 l) o).run P X = .ok (.value v) X)
 (h:gM P L S K r ((d,v)::l) w):gM P L S K ((k,i,m)::r) l w:=iC hS ho hd hg (fun ρ hρ X _=>by rw [ku hρ hk];exact he X) h
theorem XK (v:Value) (w':World) (ho:nth L i=some o) (hd:o.dst=some d) (hg:gd L l o.guard=some true) (hk:known l o.op=true) (he:(execOp (L9 l) o).run P w = .ok (.value v) w') (hS:S w')
 (h:gM P L S K r ((d,v)::l) w'):gM P L S K ((false,i,m)::r) l w:=lM ho hd hg (fun ρ hρ=>by rw [ku hρ hk];exact he) hS h
theorem bP {x y:Operand} {op:BinOp} {tx ty:TypeId} {u u':Value} (hr:∀ X,Bn P op tx x y u u' X = .ok v X) (hS:S w) (ho:nth L i=some o) (hop:o.op = .binOp op tx x y ty) (hd:o.dst=some d) (hg:gd L l o.guard=some true) (hx:dA l x=some u) (hy:dA l y=some u')
 (h:gM P L S K r ((d,v)::l) w):gM P L S K ((k,i,m)::r) l w:=Ky hS ho hop hd hg hx hy hr h
theorem Ec {x:Operand} {s t:TypeId} {kd kd':IntKind} {a c:Int} (hu:P.underlying t=some (.int kd')) (hs:(P.underlying s).isSome=true) (h1:kd'.wrap a=c) (hS:S w) (ho:nth L i=some o) (hop:o.op = .convert s t x) (hd:o.dst=some d) (hg:gd L l o.guard=some true) (hx:dA l x=some (.int kd a))
  (h:gM P L S K r ((d,.int kd' c)::l) w):gM P L S K ((k,i,m)::r) l w :=
 iC hS ho hd hg (fun ρ hρ X _=>by
  obtain ⟨sd,hs⟩:=Option.isSome_iff_exists.1 hs
  unfold execOp;rw [hop]
  refine dK _ X ?_
  rw [hρ.dA hx]
  subst h1
  simp [convert,run_underlying hs,run_underlying hu,Conv.intToInt]) h
theorem su {x:Operand} {t e:TypeId} {A:Option Addr} {n c:Nat} (hu:P.underlying t=some (.slice e)) (hS:S w) (ho:nth L i=some o) (hop:o.op = .call { callee:=.builtin .len,args:=#[x],argTypes:=#[t] }) (hd:o.dst=some d) (hg:gd L l o.guard=some true) (hx:dA l x=some (.slice A n c))
  (h:gM P L S K r ((d,.int .i64 ((n:Nat):Int))::l) w):gM P L S K ((k,i,m)::r) l w :=
 iC hS ho hd hg (fun ρ hρ X _=>by
  obtain ⟨d',op',t',ps',af',gu'⟩:=o
  cases hop
  have e:=hρ.dA hx
  simp [go_sem,e,Builtin.len_,run_underlying hu]) h
theorem Hz {x y:Operand} {t e:TypeId} {ad:Addr} {n c j s:Nat} {z:Int} {kd:IntKind} (hu:P.underlying t=some (.slice e)) (hs:(P.info? e).map (·.size)=some s) (hz:z=(j:Int)) (hj:j<n) (hS:S w) (ho:nth L i=some o) (hop:o.op = .indexAddr t x y) (hd:o.dst=some d) (hg:gd L l o.guard=some true)
  (hx:dA l x=some (.slice (some ad) n c)) (hy:dA l y=some (.int kd z)) (h:gM P L S K r ((d,.pointer (some (ad.add (j*s))))::l) w):gM P L S K ((k,i,m)::r) l w :=
 iC hS ho hd hg (fun ρ hρ X _=>by
  subst hz
  unfold execOp;rw [hop]
  refine dK _ X ?_
  rw [hρ.dA hx,hρ.dA hy]
  have h0:(0:Int)≤(j:Int)∧(j:Int)<(n:Int):=by omega
  obtain ⟨inf,hi,hz⟩:=Option.map_eq_some_iff.1 hs
  subst hz
  simp [Instr.indexAt,run_underlying hu,asIntOf,h0,hj,sizeOf,typeInfo,hi,Result.andThen]) h
theorem Pm {x y:Operand} {t e:TypeId} {ad:Addr} {n j s:Nat} {z:Int} {kd:IntKind} (hu:P.underlying t=some (.array n e)) (hs:(P.info? e).map (·.size)=some s) (hz:z=(j:Int)) (hj:j<n) (hS:S w) (ho:nth L i=some o) (hop:o.op = .indexAddr t x y) (hd:o.dst=some d) (hg:gd L l o.guard=some true)
  (hx:dA l x=some (.pointer (some ad))) (hy:dA l y=some (.int kd z)) (h:gM P L S K r ((d,.pointer (some (ad.add (j*s))))::l) w):gM P L S K ((k,i,m)::r) l w :=
 iC hS ho hd hg (fun ρ hρ X _=>by
  subst hz
  unfold execOp;rw [hop]
  refine dK _ X ?_
  rw [hρ.dA hx,hρ.dA hy]
  have h0:(0:Int)≤(j:Int)∧(j:Int)<(n:Int):=by omega
  obtain ⟨inf,hi,hz⟩:=Option.map_eq_some_iff.1 hs
  subst hz
  simp [Instr.indexAt,run_underlying hu,asIntOf,h0,hj,sizeOf,typeInfo,hi,Result.andThen,Instr.sureAddr]) h
theorem Cv {ty:TypeId} {dd:TypeDesc} {a:Addr} {X:World} (hu:P.underlying ty=some dd) (hd:dd.isRow=false) (hc:X.cell? a=some v):(Instr.loadAt ty (.pointer (some a))).run P X = .ok v X:=by
 cases dd<;>first | (simp [TypeDesc.isRow] at hd;done) | simp [Instr.loadAt,Instr.sureAddr,loadVar,isAgg,run_underlying hu,hc,Result.andThen]
theorem iB {x:Operand} {ty:TypeId} {dd:TypeDesc} {a:Addr} (hu:P.underlying ty=some dd) (hd':dd.isRow=false) (hc:∀ X,S X→X.cell? a=some v) (hS:S w) (ho:nth L i=some o) (hop:o.op = .load ty x) (hd:o.dst=some d) (hg:gd L l o.guard=some true) (hx:dA l x=some (.pointer (some a)))
 (h:gM P L S K r ((d,v)::l) w):gM P L S K ((k,i,m)::r) l w:=MC hS ho hop hd hg hx (fun X hX=>Cv hu hd' (hc X hX)) h
theorem bD {x:Operand} {ty:TypeId} {dd:TypeDesc} {a:Addr} (hu:P.underlying ty=some dd) (hd':dd.isRow=false) (hc:w.cell? a=some v) (hS:S w) (ho:nth L i=some o) (hop:o.op = .load ty x) (hd:o.dst=some d) (hg:gd L l o.guard=some true) (hx:dA l x=some (.pointer (some a)))
 (h:gM P L S K r ((d,v)::l) w):gM P L S K ((false,i,m)::r) l w:=Ir hS ho hop hd hg hx (Cv hu hd' hc) h
def H6 (A:Option Addr) (l h c s:Nat):Value:=.slice (if c=l then A else A.map (·.add (l*s))) (h-l) (c-l)
end
end Go.Proofs.YtdpmbgomcjnohaaGreatDoor.Pl
/- Memory: variables, slices that are read, rows that grow, what is kept. -/
namespace Go.Proofs.YtdpmbgomcjnohaaGreatDoor.Pl
open Go Go.RowKit
set_option linter.all false
set_option maxRecDepth 100000
set_option maxHeartbeats 8000000
def Ex (a b:World):Prop:=Below a.heap.size a b
theorem Ex.refl (w:World):Ex w w:=Below.refl _ _
theorem Ex.trans {a b c:World} (h:Ex a b) (k:Ex b c):Ex a c:=Below.trans h (Below.mono k (Below.size h))
theorem Ex.size {a b:World} (h:Ex a b):a.heap.size≤b.heap.size:=Below.size h
theorem Ex.alloc (w:World) (x:Obj):Ex w (w.alloc x):=Below.alloc (Below.refl _ w) (Nat.le_refl _) x
theorem Ex.drew (w:World):Ex w w.drew:=Below.drew (Below.refl _ w)
structure Xs (Bs:List Nat) (w w':World):Prop where
 os:w'.os=w.os
 tape:w'.tape=w.tape
 output:w'.output=w.output
 size:w.heap.size≤w'.heap.size
 block:∀ k,k<w.heap.size→k∉Bs→w'.heap[k]?=w.heap[k]?
theorem Xs.ex {Bs:List Nat} {w w':World} (h:Ex w w'):Xs Bs w w':=⟨h.os,h.tape,h.output,h.size,fun k hk _=>h.block k hk⟩
theorem Xs.trans {Bs:List Nat} {a b c:World} (h:Xs Bs a b) (k:Xs Bs b c):Xs Bs a c :=
 ⟨k.os.trans h.os,k.tape.trans h.tape,k.output.trans h.output,Nat.le_trans h.size k.size,fun i hi hn=>(k.block i (Nat.lt_of_lt_of_le hi h.size) hn).trans (h.block i hi hn)⟩
theorem Xs.drop {Bs Cs:List Nat} {w w':World} (h:Xs Bs w w') (hs:∀ k∈Bs,k∈Cs∨w.heap.size≤k):Xs Cs w w':=⟨h.os,h.tape,h.output,h.size,fun k hk hn=>h.block k hk fun hb=>by
 rcases hs k hb with h1 | h1
 · exact hn h1
 · omega⟩
theorem Ex.xs {w0 w w':World} {N:Nat} (h:Ex w0 w) (k:Xs [N] w w') (hN:w0.heap.size≤N):Ex w0 w' :=
 ⟨k.os.trans h.os,k.tape.trans h.tape,k.output.trans h.output,Nat.le_trans h.size k.size,fun i hi=>(k.block i (Nat.lt_of_lt_of_le hi h.size) (by simp;omega)).trans (h.block i hi)⟩
def Cb (w:World) (N:Nat) (T:TypeId) (cs:List Value):Prop:=w.heap[N]?=some (.cells cs.toArray T (0,0))
theorem Cb.lt {w:World} {N:Nat} {T:TypeId} {cs:List Value} (h:Cb w N T cs):N<w.heap.size:=(Array.getElem?_eq_some_iff.1 h).1
theorem Cb.ex {w w':World} {N:Nat} {T:TypeId} {cs:List Value} (h:Cb w N T cs) (k:Ex w w'):Cb w' N T cs:=(k.block N h.lt).trans h
theorem Cb.xs {w w':World} {N:Nat} {T:TypeId} {cs:List Value} {Bs:List Nat} (h:Cb w N T cs) (k:Xs Bs w w') (hn:N∉Bs):Cb w' N T cs:=(k.block N h.lt hn).trans h
theorem Cb.new (w:World) (T:TypeId) (cs:List Value):Cb (w.alloc (.cells cs.toArray T)) w.heap.size T cs:=_root_.Go.heap_alloc_new w _
theorem Cb.at {w:World} {N:Nat} {T:TypeId} {cs:List Value} {v:Value} (h:Cb w N T cs) {j:Nat} (hj:cs[j]?=some v):w.cell? ⟨N,j,none⟩=some v:=by
 rw [cell_of_row w N j cs.toArray T (0,0) h];simpa using hj
theorem Cb.frozen {w:World} {N:Nat} {T:TypeId} {cs:List Value} (h:Cb w N T cs) (j:Nat):w.frozen? ⟨N,j,none⟩=false:=by unfold Cb at h;simp [World.frozen?,h]
theorem Cb.put {w:World} {N:Nat} {T:TypeId} {cs:List Value} (h:Cb w N T cs) (new:List Value):Cb (w.setRow N new.toArray) N T new:=setRow_heap w N _ _ T _ h
theorem Xs.put (w:World) (N:Nat) (new:Array Value):Xs [N] w (w.setRow N new):=⟨by simp,by simp,by simp,by simp,fun k _ hn=>setRow_other w N k new (by simpa using hn)⟩
section
variable {P:Program}
theorem Cb.load {w:World} {N:Nat} {T:TypeId} {cs:List Value} (h:Cb w N T cs) {o:Nat} {part:List Value} (hp:(cs.drop o).take part.length=part) {ty:TypeId} {d:TypeDesc} (hu:P.underlying ty=some d) (hd:d.isRow=true) (hi:(P.info? ty).map (·.size)=some part.length) :
  (Instr.loadAt ty (.pointer (some ⟨N,o,none⟩))).run P w = .ok (.agg part.toArray) w :=
 run_loadAt_mid w N o ty part d (by
  have:=World.rangeAt_of_block h o part.length
  have e:(cs.toArray.extract o (o+part.length)).toList=part:=by
   rw [Array.toList_extract,List.extract_eq_take_drop,Nat.add_sub_cancel_left];exact hp
  rwa [e] at this) hu hd hi
theorem Cb.store {w:World} {N:Nat} {T:TypeId} {cs:List Value} (h:Cb w N T cs) {ty:TypeId} {new:List Value} (hi:(P.info? ty).map (·.size)=some new.length) (hl:cs.length=new.length) (h1:∀ v∈new,v.oneCell'=true) :
  (Instr.storeAt ty (.pointer (some ⟨N,0,none⟩)) (.agg new.toArray)).run P w = .ok () (w.setRow N new.toArray):=by
 simp only [Instr.storeAt,Instr.sureAddr,Sem.run_bind,Sem.run_pure,Result.andThen_ok]
 exact run_storeVar_row w N T ty cs.toArray new.toArray h (by simpa using hi) (by simpa using hl) (all_oneCell_toArray h1)
theorem Kz {w:World} {ty:TypeId} {a:Addr} {v old:Value} (hi:(P.info? ty).map (·.size)=some 1) (h1:v.oneCell'=true) (hv:v.cells=#[v]) (hc:w.cell? a=some old) (hf:w.frozen? a=false) :
  (Instr.storeAt ty (.pointer (some a)) v).run P w = .ok () (w.setCell a v):=by
 obtain ⟨inf,hi0,hz⟩:=Option.map_eq_some_iff.1 hi
 have e:a.add 0=a:=by simp [Addr.add]
 simp [Instr.storeAt,Instr.sureAddr,storeVar,sizeOf,typeInfo,hi0,hz,hv,storeCells,Result.andThen,run_store P w _ v _ h1,e,hc,hf]
end
theorem Cb.set {w:World} {N:Nat} {T:TypeId} {cs:List Value} (h:Cb w N T cs) (j:Nat) (v:Value):Cb (w.setCell ⟨N,j,none⟩ v) N T (cs.set j v):=by
 have:=heap_setCell_same w N j _ _ v h
 unfold Cb
 rw [this,List.setIfInBounds_toArray]
theorem Xs.set (w:World) (N j:Nat) (v:Value):Xs [N] w (w.setCell ⟨N,j,none⟩ v):=⟨by simp [World.setCell],by simp [World.setCell],by simp [World.setCell],by simp [World.setCell],fun k _ hn=>Below.heap_setCell w ⟨N,j,none⟩ v k (by simpa using hn)⟩
def Sl (w:World) (lo:Nat) (v:Value) (n:Nat) (xs:List Value):Prop:=∃ A c,v = .slice A n c∧n≤c∧c≤9223372036854775807 ∧
 (0<xs.length→∃ ad,A=some ad∧lo≤ad.block∧ad.block<w.heap.size∧∀ j u,xs[j]?=some u→w.cell? (ad.add j)=some u)
theorem Sl.sh {w:World} {lo n:Nat} {v:Value} {xs:List Value} (h:Sl w lo v n xs):∃ A c,v = .slice A n c∧n≤c∧c≤9223372036854775807:=by
 obtain ⟨A,c,h1,h2,h3,_⟩:=h;exact ⟨A,c,h1,h2,h3⟩
theorem Sl.xs {w w':World} {lo n:Nat} {v:Value} {xs:List Value} {Bs:List Nat} (h:Sl w lo v n xs) (k:Xs Bs w w') (hB:∀ b∈Bs,b<lo∨w.heap.size≤b):Sl w' lo v n xs:=by
 obtain ⟨A,c,h1,h2,h3,h4⟩:=h
 refine ⟨A,c,h1,h2,h3,fun h0=>?_⟩
 obtain ⟨ad,e,hl,hb,hc⟩:=h4 h0
 refine ⟨ad,e,hl,Nat.lt_of_lt_of_le hb k.size,fun j u hj=>?_⟩
 rw [← hc j u hj]
 refine World.cell?_of_block (k.block _ (by rw [xB];exact hb) ?_)
 intro hm
 rw [xB] at hm
 rcases hB _ hm with h5 | h5<;>omega
where xB {a:Addr} {j:Nat}:(a.add j).block=a.block:=by unfold Addr.add;split<;>rfl
theorem Sl.mono {w:World} {lo lo' n:Nat} {v:Value} {xs:List Value} (h:Sl w lo v n xs) (hl:lo'≤lo):Sl w lo' v n xs:=by
 obtain ⟨A,c,h1,h2,h3,h4⟩:=h
 exact ⟨A,c,h1,h2,h3,fun h0=>by obtain ⟨ad,e,hl',hb,hc⟩:=h4 h0;exact ⟨ad,e,Nat.le_trans hl hl',hb,hc⟩⟩
theorem Sl.nil (w:World) (lo:Nat):Sl w lo (.slice none 0 0) 0 []:=⟨none,0,rfl,Nat.le_refl _,by omega,fun h=>absurd h (by simp)⟩
theorem Sl.at {w:World} {lo n c:Nat} {A:Option Addr} {xs:List Value} (h:Sl w lo (.slice A n c) n xs) {j:Nat} {u:Value} (hj:xs[j]?=some u):∃ ad,A=some ad∧w.cell? (ad.add j)=some u:=by
 obtain ⟨A',c',h1,h2,h3,h4⟩:=h
 cases h1
 obtain ⟨ad,e,_,_,hc⟩:=h4 (by have:=(List.getElem?_eq_some_iff.1 hj).1;omega)
 exact ⟨ad,e,hc j u hj⟩
theorem Sl.cut {w:World} {lo n c s:Nat} {A:Option Addr} {xs:List Value} (h:Sl w lo (.slice A n c) n xs) (hx:xs.length=n*s) {l k:Nat} (h1:l≤k) (h2:k≤n) :
  Sl w lo (H6 A l k c s) (k-l) ((xs.drop (l*s)).take ((k-l)*s)):=by
 obtain ⟨A',c',he,hn,hc,h4⟩:=h
 cases he
 refine ⟨_,_,rfl,by omega,by omega,fun h0=>?_⟩
 have hlen:((xs.drop (l*s)).take ((k-l)*s)).length≤(k-l)*s:=by rw [List.length_take];exact Nat.min_le_left _ _
 have hkl:l<k:=by
  rcases Nat.lt_or_ge l k with h | h
  · exact h
  · have hz:(k-l)*s=0:=by rw [show k-l=0 by omega,Nat.zero_mul]
    omega
 have hpos:0<xs.length:=by rw [List.length_take,List.length_drop] at h0;omega
 obtain ⟨ad,rfl,hl,hb,hcell⟩:=h4 hpos
 have hne:c≠l:=by omega
 rw [if_neg hne]
 refine ⟨ad.add (l*s),rfl,by rw [Sl.xs.xB];exact hl,by rw [Sl.xs.xB];exact hb,fun j u hj=>?_⟩
 have e:(ad.add (l*s)).add j=ad.add (l*s+j):=by
  unfold Addr.add
  by_cases hi:l*s=0<;>by_cases hj:j=0<;>simp [hi,hj,Nat.add_assoc]
 rw [e]
 refine hcell _ u ?_
 rw [List.getElem?_take] at hj
 split at hj
 · rwa [List.getElem?_drop] at hj
 · cases hj
section
variable {P:Program} {ok:Value→Prop} {w w':World} {base:Nat} {e:TypeId} {size:Nat} {v:Value} {n:Nat} {xs:List Value}
theorem Gr.sl (h:Gr ok w base e size v n xs) (hm:n≤9223372036854775807):Sl w base v n xs:=by
 rcases h.2 with ⟨rfl,rfl⟩ | ⟨g,cap,cur,rfl,hb,hgg,hnc,hcm,hcs,htake,hok⟩
 · refine ⟨none,0,rfl,Nat.le_refl _,by omega,fun h0=>?_⟩
   have:=h.1;omega
 · refine ⟨_,cap,rfl,hnc,by unfold maxLen at hcm;omega,fun h0=>⟨_,rfl,hb,(Array.getElem?_eq_some_iff.1 hgg).1,fun j u hj=>h.own.cells (g:=g) rfl j u hj⟩⟩
theorem Gr.keep {Bs:List Nat} (h:Gr ok w base e size v n xs) (k:Xs Bs w w') (hn:∀ g,v.ownBlock=some g→g∉Bs):Gr ok w' base e size v n xs:=by
 refine ⟨h.1,?_⟩
 rcases h.2 with hn | ⟨g,cap,cur,rfl,hb,hgg,rest⟩
 · exact .inl hn
 · refine .inr ⟨g,cap,cur,rfl,hb,?_,rest⟩
   rw [k.block g (Array.getElem?_eq_some_iff.1 hgg).1 (hn g rfl)]
   exact hgg
theorem Gr.lies (h:Gr ok w base e size v n xs):∀ g,v.ownBlock=some g→base≤g∧g<w.heap.size:=by
 intro g hg
 rcases h.2 with ⟨rfl,_⟩ | ⟨g',cap,cur,rfl,hb,hgg,_⟩
 · simp [Value.ownBlock] at hg
 · simp [Value.ownBlock] at hg
   subst hg
   exact ⟨hb,(Array.getElem?_eq_some_iff.1 hgg).1⟩
end
section
variable {P:Program} {L:List Oper} {S:World→Prop} {K:List (Nat × Value)→World→Prop} {k:Bool} {i m d:Nat} {o:Oper} {x y:Operand} {r:List (Bool × Nat × Nat)} {l:List (Nat × Value)} {w w':World} {v:Value}
theorem bK {T:TypeId} {z:Value} (hz:(P.info? T).map (fun i=>i.zero)=some (some z)) (ho:nth L i=some o) (hp:o.op = .alloc T) (hd:o.dst=some d) (hg:gd L l o.guard=some true) (hS:∀ Y,Ex w Y→S Y)
  (h:∀ N w',Ex w w'→N=w.heap.size→Cb w' N T z.cells.toList→gM P L S K r ((d,.pointer (some ⟨N,0,none⟩))::l) w'):gM P L S K ((false,i,m)::r) l w:=by
 have e1:=Ex.alloc w (.cells z.cells T)
 have h0:(zeroValue T).run P w = .ok z w:=by
  cases hq:P.info? T with
  | none=>simp [hq] at hz
  | some i=>simp [hq] at hz;simp [zeroValue,typeInfo,hq,hz]
 refine QO ho hp hd hg (w':=w.alloc (.cells z.cells T)) (by simp [Instr.alloc,Sem.run_bind,h0,newVar,newRow]) (hS _ e1) (h _ _ e1 rfl ?_)
 have:=Cb.new w T z.cells.toList
 simpa using this
theorem bF {T:TypeId} {u:Value} {cs:List Value} (ho:nth L i=some o) (hp:o.op = .box T x) (hd:o.dst=some d) (hg:gd L l o.guard=some true) (hx:dA l x=some u) (hc:u.cells=cs.toArray) (hS:∀ Y,Ex w Y→S Y)
  (h:∀ N w',Ex w w'→N=w.heap.size→Cb w' N T cs→gM P L S K r ((d,.pointer (some ⟨N,0,none⟩))::l) w'):gM P L S K ((false,i,m)::r) l w:=by
 have e1:=Ex.alloc w (.cells cs.toArray T)
 refine lM (w':=w.alloc (.cells cs.toArray T)) (v:=.pointer (some ⟨w.heap.size,0,none⟩)) ho hd hg (fun ρ hρ=>?_) (hS _ e1) (h _ _ e1 rfl (Cb.new w T cs))
 unfold execOp;rw [hp]
 refine Ia _ ?_
 rw [hρ.dA hx]
 simp [Instr.box,Sem.run_bind,newVar,newRow,hc]
theorem ze {e:TypeId} {n:Nat} (cs:List Value) (ho:nth L i=some o) (hd:o.dst=some d) (hg:gd L l o.guard=some true) (hk:known l o.op=true)
  (he:(execOp (L9 l) o).run P w = .ok (.value (.slice (some ⟨w.heap.size,0,none⟩) n n)) (w.alloc (.cells cs.toArray e))) (hS:∀ Y,Ex w Y→S Y)
  (h:∀ N w',Ex w w'→N=w.heap.size→Cb w' N e cs→gM P L S K r ((d,.slice (some ⟨N,0,none⟩) n n)::l) w'):gM P L S K ((false,i,m)::r) l w :=
 XK _ _ ho hd hg hk he (hS _ (Ex.alloc w _)) (h _ _ (Ex.alloc w _) rfl (Cb.new w e cs))
theorem bz {N:Nat} {T ty:TypeId} {cs new:List Value} (hC:Cb w N T cs) (hi:(P.info? ty).map (·.size)=some new.length) (hl:cs.length=new.length) (h1:∀ v∈new,v.oneCell'=true) (ho:nth L i=some o) (hp:o.op = .store ty x y) (hd:o.dst=none) (hg:gd L l o.guard=some true) (hx:dA l x=some (.pointer (some ⟨N,0,none⟩))) (hy:dA l y=some (.agg new.toArray))
  (hS:∀ Y,Xs [N] w Y→S Y) (h:∀ w',Xs [N] w w'→Cb w' N T new→gM P L S K r l w'):gM P L S K ((false,i,m)::r) l w :=
 Iu ho hp hd hg hx hy (hC.store hi hl h1) (hS _ (Xs.put w N _)) (h _ (Xs.put w N _) (hC.put new))
theorem Cw {N j:Nat} {T ty:TypeId} {cs:List Value} {u:Value} (hC:Cb w N T cs) (hj:j<cs.length) (hi:(P.info? ty).map (·.size)=some 1) (h1:u.oneCell'=true) (hv:u.cells=#[u]) (ho:nth L i=some o) (hp:o.op = .store ty x y) (hd:o.dst=none) (hg:gd L l o.guard=some true) (hx:dA l x=some (.pointer (some ⟨N,j,none⟩))) (hy:dA l y=some u)
  (hS:∀ Y,Xs [N] w Y→S Y) (h:∀ w',Xs [N] w w'→Cb w' N T (cs.set j u)→gM P L S K r l w'):gM P L S K ((false,i,m)::r) l w :=
 Iu ho hp hd hg hx hy (Kz hi h1 hv (hC.at (List.getElem?_eq_getElem hj)) (hC.frozen j)) (hS _ (Xs.set w N j u)) (h _ (Xs.set w N j u) (hC.set j u))
theorem bn {N q:Nat} {T ty:TypeId} {dd:TypeDesc} {cs part:List Value} (hC:∀ X,S X→Cb X N T cs) (hp':(cs.drop q).take part.length=part) (hu:P.underlying ty=some dd) (hdd:dd.isRow=true) (hi:(P.info? ty).map (·.size)=some part.length) (hS:S w) (ho:nth L i=some o) (hp:o.op = .load ty x) (hd:o.dst=some d) (hg:gd L l o.guard=some true) (hx:dA l x=some (.pointer (some ⟨N,q,none⟩)))
 (h:gM P L S K r ((d,.agg part.toArray)::l) w):gM P L S K ((k,i,m)::r) l w:=MC hS ho hp hd hg hx (fun X hX=>(hC X hX).load hp' hu hdd hi) h
theorem bg {N q:Nat} {T ty:TypeId} {dd:TypeDesc} {cs part:List Value} (hC:Cb w N T cs) (hp':(cs.drop q).take part.length=part) (hu:P.underlying ty=some dd) (hdd:dd.isRow=true) (hi:(P.info? ty).map (·.size)=some part.length) (hS:S w) (ho:nth L i=some o) (hp:o.op = .load ty x) (hd:o.dst=some d) (hg:gd L l o.guard=some true) (hx:dA l x=some (.pointer (some ⟨N,q,none⟩)))
 (h:gM P L S K r ((d,.agg part.toArray)::l) w):gM P L S K ((false,i,m)::r) l w:=Ir hS ho hp hd hg hx (hC.load hp' hu hdd hi) h
end
end Go.Proofs.YtdpmbgomcjnohaaGreatDoor.Pl
/- Ranges over functions, walked with the frame as a list of what is known. -/
namespace Go.Proofs.YtdpmbgomcjnohaaGreatDoor.Pl
open Go
set_option linter.all false
set_option maxRecDepth 100000
set_option maxHeartbeats 8000000
abbrev WF (ro:Option Nat):Fence:={ Fence.wide with round:=ro }
def KsI (P:Program) (ro:Option Nat) (Q:Exit→Act→World→Prop):List Code→Exit→Act→World→Prop
 | []=>Q
 | c::cs=>Exit.then (c.wpIn (WF ro) 0 P (KsI P ro Q cs)) (KsI P ro Q cs)
def VI (P:Program) (Q:Exit→Act→World→Prop) (ro:Option Nat) (n:Nat) (ds:List Deferred) (cs:List Code) (l:List (Nat × Value)) (w:World):Prop :=
 ∀ a,Ag n ds a l→KsI P ro Q cs .normal a w
section
variable {P:Program} {Q:Exit→Act→World→Prop} {ro:Option Nat} {n:Nat} {ds:List Deferred} {cs:List Code} {l:List (Nat × Value)} {w:World} {x y:Code}
def Ea (P:Program) (Q:Exit→Act→World→Prop) (n:Nat) (ds:List Deferred) (cs:List Code) (c:Code):Nat→List (Nat × Value)→World→Prop
 | 0,l,w=>V P (Exit.then (fun _ _=>False) (Ks P Q cs)) n ds [c] l w
 | k+1,l,w=>V P (Exit.then (fun a' w'=>∃ l',Ag n ds a' l'∧Ea P Q n ds cs c k l' w') (Ks P Q cs)) n ds [c] l w
theorem NK {id:Nat} {a:Act} (h:Q .ret a w):Exit.inBlock id Q .ret a w:=h
theorem Q4 {N:Act→World→Prop} {a:Act} (h:Q .ret a w):Exit.then N Q .ret a w:=h
theorem Uy {fn:Func} {R:Ending→World→Prop} {t:Tmp} {v:Value} {a:Act} (ha:Ag n [] a l) (hr:fn.results=#[.tmp t]) (hv:look l t=some v) (h:R (.returned v) w):bodyPost P fn R .ret a w:=by
 refine ⟨ha.defers,v,?_,h⟩
 unfold results
 rw [hr]
 have:a.tmps.getD t undef=v:=by rw [Array.getD_eq_getD_getElem?,ha.look t v hv];rfl
 simp only [List.mapM_toArray,List.mapM_cons,List.mapM_nil,this]
 rfl
end
section
variable {P:Program} {Q:Exit→Act→World→Prop} {n:Nat} {ds:List Deferred} {cs:List Code} {l:List (Nat × Value)} {w:World}
theorem NL (p:Tmp) (v:Value) (tmps:Array Value):(#[p].zip #[v]).foldl (fun t (p,v)=>t.setIfInBounds p v) tmps=tmps.setIfInBounds p v:=by simp
theorem Ag.round {tmps:Array Value} {l:List (Nat × Value)} {p:Tmp} (h:Ag n [] { tmps:=tmps,defers:=[] } l) (hp:p<n) (v:Value):Ag n [] { tmps:=(#[p].zip [v].toArray).foldl (fun t (p,v)=>t.setIfInBounds p v) tmps,defers:=[] } ((p,v)::l):=by
 rw [show [v].toArray=#[v] from rfl,NL]
 exact h.put hp v
end
end Go.Proofs.YtdpmbgomcjnohaaGreatDoor.Pl
/- Small laws for the printer of walks. -/
namespace Go.Proofs.YtdpmbgomcjnohaaGreatDoor.Pl
open Go Go.RowKit
set_option linter.all false
set_option maxRecDepth 100000
set_option maxHeartbeats 8000000
theorem a64 {a b:Nat} {x y:Int} (hx:x=(a:Int)) (hy:y=(b:Int)) (h:a+b≤9223372036854775807):IntKind.i64.wrap (x+y)=((a+b:Nat):Int):=by
 subst hx hy;rw [Oy (by omega) (by omega)];omega
theorem e_t {a b:Int} (h:a=b):(a==b)=true:=beq_iff_eq.2 h
theorem e_f {a b:Int} (h:a≠b):(a==b)=false:=beq_false_of_ne h
theorem n_t {a b:Int} (h:a≠b):(a != b)=true:=bne_iff_ne.2 h
theorem n_f {a b:Int} (h:a=b):(a != b)=false:=by subst h;simp
theorem adM {k:IntKind} {a:Nat} {x:Int} (hx:x=(a:Int)) (hw:k.wrap (a:Int)=(a:Int)):k.wrap x=((a:Nat):Int):=by subst hx;exact hw
end Go.Proofs.YtdpmbgomcjnohaaGreatDoor.Pl
