/- A row of structs that grows. -/
import Derived.Test.YtnilonnkcbkdmaaGreatDoorBab
import Derived.Test.YtnilonnkcbkdmaaGreatDoorBas
import Derived.Test.YtnilonnkcbkdmaaGreatDoorBai
import Derived.Test.YtnilonnkcbkdmaaGreatDoorBac
import Derived.Laws.AppendOwn
import Derived.Below
import Derived.Deep.WholeRow
import Derived.Deep.MidRow
import Derived.Laws.CopyOwn

namespace Go.Proofs.YtnilonnkcbkdmaaGreatDoor.Pl
open Go
set_option linter.all false
set_option maxRecDepth 100000
set_option maxHeartbeats 8000000
/-! A drawn region inside a loop: how a panic goes through. -/
section
variable {P:Program} {Q:Exit→Act→World→Prop}
theorem gW {id:Nat} (hQ:∀ c (d:Option Tmp) v a w,Q (.panic c) (a.put d v) w→Q (.panic c) a w):∀ c (d:Option Tmp) v a w,Exit.inBlock id Q (.panic c) (a.put d v) w→Exit.inBlock id Q (.panic c) a w:=fun c d v a w h=>hQ c d v a w h
theorem jc {R:Act→World→Prop} (hQ:∀ c (d:Option Tmp) v a w,Q (.panic c) (a.put d v) w→Q (.panic c) a w):∀ c (d:Option Tmp) v a w,Exit.then R Q (.panic c) (a.put d v) w→Exit.then R Q (.panic c) a w:=fun c d v a w h=>hQ c d v a w h
theorem mW {cs:List Code} (hQ:∀ c (d:Option Tmp) v a w,Q (.panic c) (a.put d v) w→Q (.panic c) a w):∀ c (d:Option Tmp) v a w,Ks P Q cs (.panic c) (a.put d v) w→Ks P Q cs (.panic c) a w:=fun c d v a w h=>sW.2 (hQ c d v a w (sW.1 h))
end
/-! Functions as values. -/
section
variable {P:Program} {L:List Oper} {S:World→Prop} {K:List (Nat × Value)→World→Prop} {k:Bool} {i m d:Nat} {o:Oper} {r:List (Bool × Nat × Nat)} {l:List (Nat × Value)} {w w':World} {v:Value}
theorem iB {f:FuncId} {t:Operand} {xs:List Operand} {ats:Array TypeId} {fs vs cap:List Value} (ho:nth L i=some o) (hop:o.op = .call { callee:=.value t,args:=xs.toArray,argTypes:=ats }) (hd:o.dst=some d)
  (hg:gd L l o.guard=some true) (ht:ig l t=some (.func (.func f) fs.toArray cap.toArray)) (hx:zM l xs=some vs) (hf:∀ (u:Array Value) X,(callFunc f u).run P X = .ok (.enter f u) X)
  (hc:Calls P f (fs++(vs++cap)).toArray w (fun e w'=>∃ v,e = .returned v∧S w'∧gY P L S K r ((d,v)::l) w')):gY P L S K ((false,i,m)::r) l w :=
 ⟨o,ho,.inr (.inr (.inl ⟨d,f,(fs++(vs++cap)).toArray,rfl,hd,hg,fun ρ hρ=>by
  unfold execOp
  rw [hop]
  show (resolve ρ _ _ >>= fun d=>invoke d.target d.args).run P w=_
  unfold resolve
  show (Deferred.ofValue (ρ t) (xs.toArray.map ρ) >>= fun d=>invoke d.target d.args).run P w=_
  rw [hρ.ig ht]
  show (callFunc f ((fs.toArray++xs.toArray.map ρ)++cap.toArray)).run P w=_
  have e:(fs.toArray++xs.toArray.map ρ)++cap.toArray=(fs++(vs++cap)).toArray:=by rw [← hρ.zM hx];simp
  rw [e]
  exact hf _ w,hc⟩))⟩
theorem oJ {f:FuncId} {fst cap:List Operand} {fs vs:List Value} (hS:S w) (ho:nth L i=some o) (hop:o.op = .makeFunc (.func f) fst.toArray cap.toArray) (hd:o.dst=some d) (hg:gd L l o.guard=some true) (hf:zM l fst=some fs) (hx:zM l cap=some vs)
  (h:gY P L S K r ((d,.func (.func f) fs.toArray vs.toArray)::l) w):gY P L S K ((k,i,m)::r) l w :=
 dV hS ho hd hg (fun ρ hρ X _=>by
  unfold execOp;rw [hop]
  refine mF _ X ?_
  have e:cap.toArray.map ρ=vs.toArray:=by rw [← hρ.zM hx];simp
  have e1:fst.toArray.map ρ=fs.toArray:=by rw [← hρ.zM hf];simp
  show (Instr.makeFunc (.func f) (fst.toArray.map ρ) (cap.toArray.map ρ)).run P X=_
  rw [e,e1]
  simp [Instr.makeFunc]) h
end
theorem mG {P:Program} {n:Nat} {l:List (Nat × Value)} {w:World} {fn:Func} {R:Ending→World→Prop} (hr:fn.results=#[]) (h:R (.returned (.tuple #[])) w):V P (bodyPost P fn R) n [] [] l w:=fun a ha=>by
 refine ⟨ha.defers,.tuple #[],?_,h⟩
 unfold results
 rw [hr]
 simp
/-! A row of structs that grows, of which is known what its spare places may hold. -/
def Gr (ok:Value→Prop) (w:World) (base:Nat) (e:TypeId) (size:Nat) (v:Value) (n:Nat) (xs:List Value):Prop :=
 xs.length=n*size∧((v = .slice none 0 0∧n=0) ∨
  ∃ g cap cur,v = .slice (some ⟨g,0,none⟩) n cap∧base≤g∧w.heap[g]?=some (.cells cur e (0,0))∧n≤cap∧cap≤maxLen∧cur.size=cap*size∧cur.toList.take (n*size)=xs∧∀ c∈cur.toList,ok c)
section
variable {P:Program} {ok:Value→Prop} {w w':World} {base:Nat} {e:TypeId} {size:Nat} {v:Value} {n:Nat} {xs:List Value}
theorem Gr.nil:Gr ok w base e size (.slice none 0 0) 0 []:=⟨by simp,.inl ⟨rfl,rfl⟩⟩
theorem Gr.own (h:Gr ok w base e size v n xs):w.ownsRow base e size v n xs:=⟨h.1,h.2.imp id fun ⟨g,cap,cur,h1,h2,h3,h4,h5,h6,h7,_⟩=>⟨g,cap,cur,h1,h2,h3,h4,h5,h6,h7⟩⟩
theorem Gr.kept {row:Option Nat} (h:Gr ok w base e size v n xs) (hg:w.grownBy w' row) (hne:v.ownBlock=none∨v.ownBlock≠row):Gr ok w' base e size v n xs:=by
 refine ⟨h.1,?_⟩
 rcases h.2 with hn | ⟨g,cap,cur,rfl,hb,hgg,rest⟩
 · exact .inl hn
 · refine .inr ⟨g,cap,cur,rfl,hb,?_,rest⟩
   rw [hg.block g (Array.getElem?_eq_some_iff.1 hgg).1 (by simpa [Value.ownBlock] using hne)]
   exact hgg
theorem Gr.made (w:World) (base:Nat) (e:TypeId) (size n:Nat) (cur:List Value) (hb:base≤w.heap.size) (hs:cur.length=n*size) (hm:n≤maxLen) (hok:∀ c∈cur,ok c):Gr ok (w.alloc (.cells cur.toArray e)) base e size (.slice (some ⟨w.heap.size,0,none⟩) n n) n cur :=
 ⟨hs,.inr ⟨w.heap.size,n,cur.toArray,rfl,hb,_root_.Go.heap_alloc_new w _,Nat.le_refl _,hm,by simpa using hs,by rw [← hs];simp,by simpa using hok⟩⟩
theorem Gr.ajr (h:Gr ok w base e size v n xs) {a:Addr} {u:Value} (hb:v.ownBlock=some a.block) (hu:w.cell? a=some u):ok u:=by
 rcases h.2 with ⟨rfl,_⟩ | ⟨g,cap,cur,rfl,_,hgg,_,_,_,_,hok⟩
 · simp [Value.ownBlock] at hb
 · simp [Value.ownBlock] at hb
   subst hb
   unfold World.cell? at hu
   rw [hgg] at hu
   refine hok u ?_
   simp at hu
   exact Array.mem_toList_iff.2 (Array.mem_of_getElem? hu.2)
theorem CO (w:World) (t ty:TypeId) (i:TypeInfo) (z:Value) (bytes:Nat) (ht:P.underlying t=some (.slice e)) (hi:P.info? e=some i) (hz:i.zero=some z) (hsize:i.size=size) (hby:i.bytes=bytes) (hzs:z.cells.size=size)
  (hok0:∀ c∈z.cells.toList,ok c) (h:Gr ok w base e size v n xs)
  (a:Addr) (m c:Nat) (news:List Value) (hl:news.length=m*size) (hm:0<m) (hnews:∀ j u,news[j]?=some u→w.cell? (a.add j)=some u) (h1:∀ u∈news,u.oneCell'=true) (avK:∀ u∈news,ok u)
  (h63:n+m≤maxLen) (hbytes:(n+m)*bytes≤140737488355328) (hbase:base≤w.heap.size) :
  ∃ v' w',(Builtin.append_ #[t,t] ty #[v,.slice (some a) m c]).run P w = .ok v' w'∧Gr ok w' base e size v' (n+m) (xs++news)∧w.grownBy w' v.ownBlock:=by
 subst hsize
 subst hby
 have hsmall:n+m≤9223372036854775807:=by simp only [maxLen] at h63;omega
 have hlen:(xs++news).length=(n+m)*i.size:=by rw [List.length_append,h.1,hl,Nat.add_mul]
 have hzc:∀ k,∀ c∈(Builtin.zeroCells z.cells k).toList,ok c:=by
  intro k c hc
  have h2:=Array.mem_toList_iff.1 hc
  unfold Builtin.zeroCells at h2
  obtain ⟨j,hj,rfl⟩:=Array.mem_iff_getElem.1 h2
  simp only [Array.size_map,Array.size_range] at hj
  simp only [Array.getElem_map,Array.getElem_range]
  have hpos:0<z.cells.size:=by
   rcases Nat.eq_zero_or_pos z.cells.size with h0 | h0
   · rw [h0,Nat.mul_zero] at hj;omega
   · exact h0
  have hlt:j%z.cells.size<z.cells.size:=Nat.mod_lt _ hpos
  rw [getElem!_pos z.cells _ hlt]
  exact hok0 _ (Array.mem_toList_iff.2 (Array.getElem_mem hlt))
 have grown:∀ (old:Nat),old<n+m→(∀ c∈xs,ok c)→∀ (row:Option Nat),
   Gr ok (w.drew.alloc (.cells (xs.toArray++news.toArray++Builtin.zeroCells z.cells (grownCap w (n+m) old e-(n+m))) e)) base e i.size (.slice (some ⟨w.heap.size,0,none⟩) (n+m) (grownCap w (n+m) old e)) (n+m) (xs++news) ∧
   w.grownBy (w.drew.alloc (.cells (xs.toArray++news.toArray++Builtin.zeroCells z.cells (grownCap w (n+m) old e-(n+m))) e)) row:=by
  intro old ho hx row
  have hge:=grownCap_ge w (n+m) old e
  refine ⟨⟨hlen,.inr ⟨w.heap.size,_,_,rfl,hbase,_root_.Go.heap_alloc_new w.drew _,hge,grownCap_le_maxLen w (n+m) old e h63,?_,?_,?_⟩⟩,⟨rfl,rfl,rfl,by simp,fun k hk _=>Go.RowKit.Below.heap_alloc w.drew _ k hk⟩⟩
  · simp only [Array.size_append,List.size_toArray,size_zeroCells,hzs,h.1,hl,← Nat.add_mul]
    congr 1
    omega
  · simp only [Array.toList_append,List.append_assoc]
    rw [← List.append_assoc,← hlen]
    exact List.take_left
  · intro c hc
    simp only [Array.toList_append,List.mem_append] at hc
    rcases hc with (hc | hc) | hc
    · exact hx c hc
    · exact avK c hc
    · exact hzc _ c hc
 rcases h.2 with ⟨rfl,rfl⟩ | ⟨g,cap,cur,rfl,hbg,hg,hnc,hcm,hcs,htake,hok⟩
 · have hx:xs=[]:=List.eq_nil_of_length_eq_zero (by simpa using h.1)
   subst hx
   have hr:=run_append_nil (P:=P) w t ty e i z ht hi hz a m c news hl hnews (by omega) (by omega) (by have hb:=hbytes;simp only [Nat.zero_add] at hb;omega)
   have hgr:=grown 0 (by omega) (fun _ h=>by cases h) (Value.ownBlock (.slice none 0 0))
   simp only [Nat.zero_add,List.nil_append,Array.empty_append] at hgr ⊢
   exact ⟨_,_,hr,hgr.1,hgr.2⟩
 · have hxs:∀ c∈xs,ok c:=fun c hc=>hok c (List.mem_of_mem_take (htake ▸ hc))
   by_cases hroom:n+m≤cap
   · have hfit:n*i.size+news.length≤cur.size:=by rw [hl,hcs,← Nat.add_mul];exact Nat.mul_le_mul_right _ hroom
     have hr:=run_append_room (P:=P) w t ty e i ht hi g n cap cur hg a m c news hl hnews h1 hroom hfit
     refine ⟨_,_,hr,⟨hlen,.inr ⟨g,cap,_,rfl,hbg,setRow_heap w g cur _ e _ hg,hroom,hcm,?_,?_,?_⟩⟩,⟨rfl,rfl,rfl,by simp,fun k _ hk=>setRow_other w g k _ (fun e=>hk (by simp [Value.ownBlock,e]))⟩⟩
     · simp only [List.size_toArray,List.length_append,List.length_take,List.length_drop,Array.length_toList]
       omega
     · rw [htake,← hlen]
       exact List.take_left
     · intro c hc
       simp only [List.mem_append] at hc
       rcases hc with (hc | hc) | hc
       · exact hok c (List.mem_of_mem_take hc)
       · exact avK c hc
       · exact hok c (List.mem_of_mem_drop hc)
   · have holds:∀ j u,xs[j]?=some u→w.cell? ((⟨g,0,none⟩:Addr).add j)=some u:=h.own.cells (g:=g) rfl
     have hr:=run_append_grow (P:=P) w t ty e i z ht hi hz ⟨g,0,none⟩ n cap xs h.1 holds a m c news hl hnews (by omega) (by omega) (growslice_fits (by omega) hbytes)
     have hgr:=grown cap (by omega) hxs (Value.ownBlock (.slice (some ⟨g,0,none⟩) n cap))
     exact ⟨_,_,hr,hgr.1,hgr.2⟩
end
end Go.Proofs.YtnilonnkcbkdmaaGreatDoor.Pl
/- Words of 64 bits; the greatest common divisor of two of them. -/
namespace Go.Proofs.YtnilonnkcbkdmaaGreatDoor
open Go.RowKit
set_option linter.all false
set_option maxRecDepth 100000
set_option maxHeartbeats 8000000
namespace EQH
set_option linter.all false
set_option maxRecDepth 100000
set_option maxHeartbeats 8000000
end EQH
open EQH
section
variable {x y:Operand}
theorem w64 {c:Nat} (h:c<18446744073709551616):IntKind.u64.wrap (c:Int)=(c:Int):=by rw [IntKind.wrap_u64];omega
theorem agf {a b:Nat} (h0:0<b) (hb:b<18446744073709551616) (X:World):(do eqGuard .rem 73 x y (.int .u64 (a:Int)) (.int .u64 (b:Int));binOp .rem 73 (.int .u64 (a:Int)) (.int .u64 (b:Int)):Sem Value).run Tryz.prog X = .ok (.int .u64 ((a%b:Nat):Int)) X:=by
 have hc:=Nat.mod_lt a h0
 have e:Int.tmod (a:Int) (b:Int)=((a%b:Nat):Int):=rfl
 have w1:=w64 (c:=a%b) (by omega)
 have hz:¬ ((b:Int)=0):=by omega
 have hn:¬ b=0:=by omega
 clear hc
 generalize a%b=c at *
 go_simp
theorem ak0 {a b:Nat} (h0:0<b) (ha:a<18446744073709551616) (X:World):(do eqGuard .quo 73 x y (.int .u64 (a:Int)) (.int .u64 (b:Int));binOp .quo 73 (.int .u64 (a:Int)) (.int .u64 (b:Int)):Sem Value).run Tryz.prog X = .ok (.int .u64 ((a/b:Nat):Int)) X:=by
 have hc:=Nat.div_le_self a b
 have e:Int.tdiv (a:Int) (b:Int)=((a/b:Nat):Int):=rfl
 have w1:=w64 (c:=a/b) (by omega)
 have hz:¬ ((b:Int)=0):=by omega
 have hn:¬ b=0:=by omega
 clear hc
 generalize a/b=c at *
 go_simp
theorem vJ {a b c:Nat} (h:a+b=c) (hc:c<18446744073709551616) (X:World):(do eqGuard .add 73 x y (.int .u64 (a:Int)) (.int .u64 (b:Int));binOp .add 73 (.int .u64 (a:Int)) (.int .u64 (b:Int)):Sem Value).run Tryz.prog X = .ok (.int .u64 (c:Int)) X:=by
 have e:(a:Int)+(b:Int)=(c:Int):=by omega
 have w1:=w64 hc
 clear h hc
 go_simp
theorem ak1 {a b c:Nat} (h:b≤a) (e':a-b=c) (ha:a<18446744073709551616) (X:World):(do eqGuard .sub 73 x y (.int .u64 (a:Int)) (.int .u64 (b:Int));binOp .sub 73 (.int .u64 (a:Int)) (.int .u64 (b:Int)):Sem Value).run Tryz.prog X = .ok (.int .u64 (c:Int)) X:=by
 have e:(a:Int)-(b:Int)=(c:Int):=by omega
 have w1:=w64 (c:=c) (by omega)
 clear h e' ha
 go_simp
theorem Al {a b c:Nat} (h:a*b=c) (hc:c<18446744073709551616) (X:World):(do eqGuard .mul 73 x y (.int .u64 (a:Int)) (.int .u64 (b:Int));binOp .mul 73 (.int .u64 (a:Int)) (.int .u64 (b:Int)):Sem Value).run Tryz.prog X = .ok (.int .u64 (c:Int)) X:=by
 have e:(a:Int)*(b:Int)=(c:Int):=by rw [← h,Int.natCast_mul]
 have w1:=w64 hc
 clear h hc
 go_simp
theorem ak2 {a b:Int} {v:Bool} (h:(a != b)=v) (X:World):(do eqGuard .neq 73 x y (.int .u64 a) (.int .u64 b);binOp .neq 73 (.int .u64 a) (.int .u64 b):Sem Value).run Tryz.prog X = .ok (.bool v) X:=by
 subst h;go_simp
theorem avL {a b:Int} {v:Bool} (h:(a==b)=v) (X:World):(do eqGuard .eql 73 x y (.int .u64 a) (.int .u64 b);binOp .eql 73 (.int .u64 a) (.int .u64 b):Sem Value).run Tryz.prog X = .ok (.bool v) X:=by
 subst h;go_simp
theorem Rh {a b:Int} {v:Bool} (h:decide (b≤a)=v) (X:World):(do eqGuard .geq 73 x y (.int .u64 a) (.int .u64 b);binOp .geq 73 (.int .u64 a) (.int .u64 b):Sem Value).run Tryz.prog X = .ok (.bool v) X:=by
 subst h;go_simp
end
theorem alI (w:World) (a b:Nat) (ha:a<18446744073709551616) (hb:b<18446744073709551616) :
  Calls Tryz.prog 55 #[.int .u64 (a:Int),.int .u64 (b:Int)] w fun e w'=>e = .returned (.int .u64 (Nat.gcd a b:Nat))∧Ext w w':=by
 refine Pl.aV (n:=12) (vs:=[.int .u64 (a:Int),.int .u64 (b:Int)]) Tryz.func55 rfl (by kernel_rfl) (by simp) ?_
 refine Pl.az ?_
 refine Pl.ay (by kernel_rfl) ?_
 refine Pl.aj trivial rfl rfl rfl rfl rfl ?_
 refine Pl.ak ?_
 refine Pl.az ?_
 refine Pl.kS [(0,.int .u64 (a:Int)),(1,.int .u64 (b:Int))] (Pl.aa rfl (Pl.aa rfl Pl.aK)) ?_
 refine Pl.cK ?_
 refine Pl.mU (fun k l' w'=>∃ (x y:Nat),k=y∧Nat.gcd x y=Nat.gcd a b∧x<18446744073709551616∧y<18446744073709551616∧Ext w w'∧l'=[(0,.int .u64 (x:Int)),(1,.int .u64 (y:Int))]) b ⟨a,b,rfl,rfl,ha,hb,Ext.refl w,rfl⟩ ?_
 rintro y _ w1 ⟨x,_,rfl,hgk,hx,hy,hE,rfl⟩
 rcases Nat.eq_zero_or_pos y with hy0 | hy0
 · refine Pl.az ?_
   refine Pl.az ?_
   refine Pl.ay (by kernel_rfl) ?_
   refine Pl.ah trivial rfl rfl rfl rfl rfl ?_
   refine Pl.aI (v:=(.bool false)) trivial rfl rfl rfl rfl rfl rfl (fun X=>ak2 (by simp;omega) X) ?_
   refine Pl.ak ?_
   refine Pl.bD rfl ?_
   refine Pl.jE ?_
   refine Pl.az ?_
   refine Pl.ay (by kernel_rfl) ?_
   refine Pl.ah trivial rfl rfl rfl rfl rfl ?_
   refine Pl.aj trivial rfl rfl rfl rfl rfl ?_
   refine Pl.ak ?_
   refine Pl.bU rfl rfl ?_
   exact ⟨by rw [← hgk,hy0,Nat.gcd_zero_right],hE⟩
 · refine Pl.az ?_
   refine Pl.az ?_
   refine Pl.ay (by kernel_rfl) ?_
   refine Pl.ah trivial rfl rfl rfl rfl rfl ?_
   refine Pl.aI (v:=(.bool true)) trivial rfl rfl rfl rfl rfl rfl (fun X=>ak2 (by simp;omega) X) ?_
   refine Pl.ak ?_
   refine Pl.dh rfl ?_
   refine Pl.bN ?_
   refine Pl.cK ?_
   refine Pl.iN (S:=fun X=>Ext w1 X) [(true,0,0),(true,1,1),(true,2,3),(true,3,7),(true,4,15),(true,5,31)] fo (by repeat first | exact Pl.aD | refine Pl.gW ?_ | refine Pl.jc ?_ | refine Pl.mW ?_) (by kernel_rfl) (Ext.drew (Ext.refl w1)) ?_
   generalize w1.drew=w2
   intro hB2
   have hS2:=hB2
   refine Pl.ah hS2 rfl rfl rfl rfl rfl ?_
   refine Pl.ah hS2 rfl rfl rfl rfl rfl ?_
   refine Pl.ah hS2 rfl rfl rfl rfl rfl ?_
   refine Pl.aI (v:=(.int .u64 ((x%y:Nat):Int))) hS2 rfl rfl rfl rfl rfl rfl (fun X=>agf hy0 hy X) ?_
   refine Pl.aj hS2 rfl rfl rfl rfl rfl ?_
   refine Pl.aj hS2 rfl rfl rfl rfl rfl ?_
   refine Pl.ak ?_
   refine Pl.bZ ?_
   exact Pl.iY [(0,.int .u64 (y:Int)),(1,.int .u64 ((x%y:Nat):Int))] (Pl.aa rfl (Pl.aa rfl Pl.aK)) (Nat.mod_lt x hy0) ⟨y,x%y,rfl,(rU x y).trans hgk,hy,Nat.lt_trans (Nat.mod_lt x hy0) hy,hE.below hB2,rfl⟩
end Go.Proofs.YtnilonnkcbkdmaaGreatDoor
/- Boxes of any struct, rows that grow: what stays while they are written. -/
namespace Go.Proofs.YtnilonnkcbkdmaaGreatDoor
open Go.RowKit
set_option linter.all false
set_option maxRecDepth 100000
set_option maxHeartbeats 8000000
def Cb (w:World) (N:Nat) (T:TypeId) (cs:List Value):Prop:=w.heap[N]?=some (.cells cs.toArray T (0,0))
def dQ (c:Value):Prop:=∀ k,c≠.int .u32 k
def Kp (w w':World):Prop:=w.heap.size≤w'.heap.size∧∀ a k,w.cell? a=some (.int .u32 k)→w'.cell? a=some (.int .u32 k)
theorem Kp.refl (w:World):Kp w w:=⟨Nat.le_refl _,fun _ _ h=>h⟩
theorem Kp.trans {a b c:World} (h:Kp a b) (k:Kp b c):Kp a c:=⟨Nat.le_trans h.1 k.1,fun p x e=>k.2 p x (h.2 p x e)⟩
theorem Kp.ext {w w':World} (h:Ext w w'):Kp w w':=⟨h.size,fun a k e=>(h.cell (World.block_lt_of_cell? w a e)).trans e⟩
theorem U.kp {w w':World} {v:Value} {xs:List Nat} (h:U w v xs) (k:Kp w w'):U w' v xs:=by
 obtain ⟨A,c,e,hc,hx,hr⟩:=h
 refine ⟨A,c,e,hc,hx,fun h0=>?_⟩
 obtain ⟨ad,ea,hb,hj⟩:=hr h0
 exact ⟨ad,ea,Nat.lt_of_lt_of_le hb k.1,fun j hjl=>k.2 _ _ (hj j hjl)⟩
theorem Un.kp {w w':World} {v:Value} {n:Nat} (h:Un w v n) (k:Kp w w'):Un w' v n:=U.kp h k
theorem Zn.kp {w w':World} {v:Value} {z:Int} (h:Zn w v z) (k:Kp w w'):Zn w' v z:=by
 obtain ⟨A,c,e,hu⟩:=h
 exact ⟨A,c,e,Un.kp hu k⟩
theorem Ib.kpB {w w':World} {N:Nat} {b:Bool} {m:Value} (h:Ib w N b m) (hb:w'.heap[N]?=w.heap[N]?) (hs:w.heap.size≤w'.heap.size):Ib w' N b m:=by
 obtain ⟨h0,h1,h2,h3,h4⟩:=h
 exact ⟨Nat.lt_of_lt_of_le h0 hs,(World.cell?_of_block (a:=⟨N,0,none⟩) hb).trans h1,(World.cell?_of_block (a:=⟨N,1,none⟩) hb).trans h2,(World.frozen?_of_block (a:=⟨N,0,none⟩) hb).trans h3,(World.frozen?_of_block (a:=⟨N,1,none⟩) hb).trans h4⟩
theorem Cb.lt {w:World} {N:Nat} {T:TypeId} {cs:List Value} (h:Cb w N T cs):N<w.heap.size:=(Array.getElem?_eq_some_iff.1 h).1
theorem Cb.ext {w w':World} {N:Nat} {T:TypeId} {cs:List Value} (h:Cb w N T cs) (k:Ext w w'):Cb w' N T cs:=(k.block N h.lt).trans h
theorem Cb.new (w:World) (T:TypeId) (cs:List Value):Cb (w.alloc (.cells cs.toArray T)) w.heap.size T cs:=heap_alloc_last w _
theorem Cb.load {w:World} {N:Nat} {T:TypeId} {cs:List Value} (h:Cb w N T cs) (ty:TypeId) (d:TypeDesc) (hu:Tryz.prog.underlying ty=some d) (hd:d.isRow=true) (hi:(Tryz.prog.info? ty).map (·.size)=some cs.length) :
  (Instr.loadAt ty (.pointer (some ⟨N,0,none⟩))).run Tryz.prog w = .ok (.agg cs.toArray) w :=
 run_loadAt_mid w N 0 ty cs d (by have:=World.rangeAt_of_block h 0 cs.length;simpa using this) hu hd hi
theorem Cb.bJ {w:World} {N:Nat} {T:TypeId} {cs:List Value} (h:Cb w N T cs) (o:Nat) (part:List Value) (hp:(cs.drop o).take part.length=part) (ty:TypeId) (d:TypeDesc) (hu:Tryz.prog.underlying ty=some d) (hd:d.isRow=true) (hi:(Tryz.prog.info? ty).map (·.size)=some part.length) :
  (Instr.loadAt ty (.pointer (some ⟨N,o,none⟩))).run Tryz.prog w = .ok (.agg part.toArray) w :=
 run_loadAt_mid w N o ty part d (by
  have:=World.rangeAt_of_block h o part.length
  have e:(cs.toArray.extract o (o+part.length)).toList=part:=by
   rw [Array.toList_extract,List.extract_eq_take_drop,Nat.add_sub_cancel_left];exact hp
  rwa [e] at this) hu hd hi
theorem UD (w:World) (T:TypeId) (z:Value) (heap:Bool) (hz:(Tryz.prog.info? T).map (fun i=>i.zero)=some (some z)) :
  (Instr.alloc T heap (.tuple #[])).run Tryz.prog w = .ok (.pointer (some ⟨w.heap.size,0,none⟩)) (w.alloc (.cells z.cells T)):=by
 have h0:(zeroValue T).run Tryz.prog w = .ok z w:=by
  cases hq:Tryz.prog.info? T with
  | none=>simp [hq] at hz
  | some i=>simp [hq] at hz;simp [zeroValue,typeInfo,hq,hz]
 cases heap<;>simp [Instr.alloc,Sem.run_bind,h0,newVar,newRow]
theorem Cb.store {w:World} {N:Nat} {T:TypeId} {cs:List Value} (h:Cb w N T cs) (ty:TypeId) (new:List Value) (hi:(Tryz.prog.info? ty).map (·.size)=some new.length) (hl:cs.length=new.length) (h1:∀ v∈new,v.oneCell'=true) :
  (Instr.storeAt ty (.pointer (some ⟨N,0,none⟩)) (.agg new.toArray)).run Tryz.prog w = .ok () (w.setRow N new.toArray):=by
 simp only [Instr.storeAt,Instr.sureAddr,Sem.run_bind,Sem.run_pure,Result.andThen_ok]
 exact run_storeVar_row w N T ty cs.toArray new.toArray h (by simpa using hi) (by simpa using hl) (all_oneCell_toArray h1)
theorem Cb.put {w:World} {N:Nat} {T:TypeId} {cs:List Value} (h:Cb w N T cs) (new:List Value):Cb (w.setRow N new.toArray) N T new:=setRow_heap w N _ _ T _ h
theorem Cb.other {w:World} {M:Nat} {T:TypeId} {cs:List Value} (h:Cb w M T cs) (N:Nat) (new:Array Value) (hne:M≠N):Cb (w.setRow N new) M T cs:=(setRow_other w N M new hne).trans h
theorem Kp.put {w:World} {N:Nat} {T:TypeId} {cs:List Value} (h:Cb w N T cs) (hn:∀ c∈cs,dQ c) (new:Array Value):Kp w (w.setRow N new):=by
 refine ⟨by simp,fun a k e=>?_⟩
 by_cases hb:a.block=N
 · exfalso
   subst hb
   unfold World.cell? at e
   rw [show w.heap[a.block]?=_ from h] at e
   simp at e
   exact hn _ (List.mem_of_getElem? e.2) k rfl
 · rw [cell_setRow_other w N new a hb];exact e
theorem Kp.grown {ok:Value→Prop} {w w':World} {base size n:Nat} {e:TypeId} {v:Value} {xs:List Value} (h:Pl.Gr ok w base e size v n xs) (hok:∀ c,ok c→dQ c) (hg:w.grownBy w' v.ownBlock):Kp w w':=by
 refine ⟨hg.size,fun a k ha=>hg.cell ha fun hb=>?_⟩
 exact hok _ (h.ajr hb.symm ha) k rfl
theorem Cb.grown {ok:Value→Prop} {w w':World} {base size n N:Nat} {e T:TypeId} {v:Value} {xs cs:List Value} (hC:Cb w N T cs) (h:Pl.Gr ok w base e size v n xs) (hT:T≠e) (hg:w.grownBy w' v.ownBlock):Cb w' N T cs:=by
 refine (hg.block N hC.lt fun hb=>?_).trans hC
 rcases h.2 with ⟨rfl,_⟩ | ⟨g,cap,cur,rfl,_,hgg,_⟩
 · simp [Value.ownBlock] at hb
 · simp [Value.ownBlock] at hb
   subst hb
   rw [show w.heap[N]?=_ from hC] at hgg
   simp only [Option.some.injEq,Obj.cells.injEq] at hgg
   exact hT hgg.2.1
theorem Ext.grown {ok:Value→Prop} {w0 w w':World} {base size n:Nat} {e:TypeId} {v:Value} {xs:List Value} (hE:Ext w0 w) (h:Pl.Gr ok w base e size v n xs) (hb:w0.heap.size≤base) (hg:w.grownBy w' v.ownBlock):Ext w0 w' :=
 Below.grown hE hg hE.size fun k hk=>Nat.le_trans hb (h.own.lt k hk).1
theorem Gr.ext {ok:Value→Prop} {w w':World} {base size n:Nat} {e:TypeId} {v:Value} {xs:List Value} (h:Pl.Gr ok w base e size v n xs) (k:Ext w w'):Pl.Gr ok w' base e size v n xs:=by
 refine h.kept (row:=none) ⟨k.os,k.tape,k.output,k.size,fun j hj _=>k.block j hj⟩ ?_
 rcases hv:v.ownBlock with _ | g
 · exact .inl rfl
 · exact .inr (by simp)
theorem Gr.apart {ok ok':Value→Prop} {w w':World} {base size n base' size' n':Nat} {e e':TypeId} {v v':Value} {xs xs':List Value} (h:Pl.Gr ok w base e size v n xs) (h':Pl.Gr ok' w base' e' size' v' n' xs') (hT:e≠e') (hg:w.grownBy w' v'.ownBlock):Pl.Gr ok w' base e size v n xs:=by
 refine h.kept hg ?_
 rcases h.2 with ⟨rfl,_⟩ | ⟨g,cap,cur,rfl,hb,hgg,rest⟩
 · exact .inl rfl
 · refine .inr fun hb'=>?_
   rcases h'.2 with ⟨rfl,_⟩ | ⟨g',cap',cur',rfl,_,apm,_⟩
   · simp [Value.ownBlock] at hb'
   · simp [Value.ownBlock] at hb'
     subst hb'
     rw [hgg] at apm
     simp only [Option.some.injEq,Obj.cells.injEq] at apm
     exact hT apm.2.1
end Go.Proofs.YtnilonnkcbkdmaaGreatDoor
/- Limbs read out of a natural; variables that a function value holds. -/
namespace Go.Proofs.YtnilonnkcbkdmaaGreatDoor
open Go.RowKit
set_option linter.all false
set_option maxRecDepth 100000
set_option maxHeartbeats 8000000
section
variable {L:List Oper} {S:World→Prop} {K:List (Nat × Value)→World→Prop} {k:Bool} {i m d:Nat} {o:Oper} {x:Operand} {r:List (Bool × Nat × Nat)} {l:List (Nat × Value)} {w:World}
theorem aP {T:TypeId} {y:Operand} {u p:Value} {j:Int} (hS:S w) (ho:Pl.nth L i=some o) (hp:o.op = .indexAddr T x y) (hd:o.dst=some d) (hg:Pl.gd L l o.guard=some true) (hx:Pl.ig l x=some u) (hy:Pl.ig l y=some (.int .i64 j))
  (hr:∀ X,(Instr.indexAt T u (.int .i64 j)).run Tryz.prog X = .ok p X)
  (h:Pl.gY Tryz.prog L S K r ((d,p)::l) w):Pl.gY Tryz.prog L S K ((k,i,m)::r) l w :=
 Pl.dV hS ho hd hg (fun ρ hρ X _=>by
  unfold execOp;rw [hp]
  refine Pl.mF _ X ?_
  rw [hρ.ig hx,hρ.ig hy]
  exact hr X) h
end
theorem U.at {w:World} {v:Value} {xs:List Nat} (h:U w v xs) {j:Nat} (hj:j<xs.length):∃ p,(∀ X,(Instr.indexAt 22 v (.int .i64 (j:Int))).run Tryz.prog X = .ok p X)∧∀ X,Ext w X→(Instr.loadAt 43 p).run Tryz.prog X = .ok (.int .u32 (lb xs j:Nat)) X:=by
 obtain ⟨A,c,rfl,hc,hx,hr⟩:=h
 obtain ⟨ad,rfl,hb,hcell⟩:=hr (by omega)
 have h1:(j:Int)<(xs.length:Int):=by omega
 have h0:(0:Int)≤(j:Int):=by omega
 refine ⟨.pointer (some (ad.add j)),fun X=>?_,fun X hX=>?_⟩
 · clear hcell hb hx hc
   go_simp
 · have hq:=(hX.cell (p:=ad.add j) (by rw [aM];exact hb)).trans (hcell j hj)
   clear hcell
   generalize ad.add j=q at *
   go_simp
theorem Cb.cell {w:World} {N:Nat} {T:TypeId} {v:Value} (h:Cb w N T [v]):w.cell? ⟨N,0,none⟩=some v:=by
 rw [cell_of_row w N 0 #[v] T (0,0) h];rfl
theorem Cb.int {w:World} {N:Nat} {T:TypeId} {z:Int} (h:Cb w N T [.int .i64 z]):(Instr.loadAt 3 (.pointer (some ⟨N,0,none⟩))).run Tryz.prog w = .ok (.int .i64 z) w:=by
 have hc:=h.cell
 clear h
 go_simp
theorem Cb.limbs {w:World} {N:Nat} {T:TypeId} {v:Value} (h:Cb w N T [v]):(Instr.loadAt 22 (.pointer (some ⟨N,0,none⟩))).run Tryz.prog w = .ok v w:=by
 have hc:=h.cell
 clear h
 go_simp
theorem aak {y x0 by':Nat} (h:by'≤32):(y*2^32+x0)/2^(32-by')=y*2^by'+x0/2^(32-by'):=by
 have e:(2:Nat)^32=2^by'*2^(32-by'):=by rw [← Nat.pow_add];congr 1;omega
 rw [e,← Nat.mul_assoc,Nat.mul_comm _ (2^(32-by')),Nat.mul_add_div (Nat.two_pow_pos _)]
theorem agh {x0 by':Nat} (h:by'≤32) (hx:x0<2^32):x0/2^(32-by')<2^by':=by
 rw [Nat.div_lt_iff_lt_mul (Nat.two_pow_pos _),← Nat.pow_add]
 rwa [show by'+(32-by')=32 from by omega]
theorem avM {x y:Operand} {a b i c:Nat} (hb:b<2^i) (e:a*2^i+b=c) (hc:c<18446744073709551616) (X:World):(do eqGuard .or 73 x y (.int .u64 ((a*2^i:Nat):Int)) (.int .u64 (b:Int));binOp .or 73 (.int .u64 ((a*2^i:Nat):Int)) (.int .u64 (b:Int)):Sem Value).run Tryz.prog X = .ok (.int .u64 (c:Int)) X:=by
 have e1:(a*2^i)|||b=c:=by
  rw [← Nat.shiftLeft_eq,← Nat.shiftLeft_add_eq_or_of_lt hb,Nat.shiftLeft_eq,e]
 have e2:bits .or .u64 ((a*2^i:Nat):Int) (b:Int)=(c:Int):=by
  have h1:a*2^i<18446744073709551616:=by omega
  have h2:b<18446744073709551616:=by omega
  rw [← e1]
  generalize a*2^i=t at *
  exact u64_or_nat _ _ h1 h2
 generalize a*2^i=t at *
 clear e1 e hb
 go_simp
end Go.Proofs.YtnilonnkcbkdmaaGreatDoor
/- A limb, or 0 beyond them. -/
namespace Go.Proofs.YtnilonnkcbkdmaaGreatDoor
open Go.RowKit
set_option linter.all false
set_option maxRecDepth 100000
set_option maxHeartbeats 8000000
namespace EQJ
set_option linter.all false
set_option maxRecDepth 100000
set_option maxHeartbeats 8000000
end EQJ
open EQJ
theorem U.apo {w:World} {v:Value} {xs:List Nat} (h:U w v xs):∀ x∈xs,x<4294967296:=by obtain ⟨_,_,_,_,hx,_⟩:=h;exact hx
theorem wF {a:Nat} (ha:a<4294967296) (X:World):(convert 43 73 (.int .u32 (a:Int))).run Tryz.prog X = .ok (.int .u64 (a:Int)) X:=by
 have w1:=w64 (c:=a) (by omega)
 go_simp
theorem UE (w:World) (N:Nat) (T:TypeId) (v:Value) (xs:List Nat) (j:Nat) (hN:Cb w N T [v]) (hu:U w v xs) (hj:j<xs.length) :
  Calls Tryz.prog 142 #[.int .i64 (j:Int),.pointer (some ⟨N,0,none⟩)] w fun e w'=>e = .returned (.int .u64 (lb xs j:Nat))∧Ext w w':=by
 have hx:=U.apo hu
 obtain ⟨A,c,rfl,-⟩:=id hu
 refine Pl.aV (n:=13) (vs:=[.int .i64 (j:Int),.pointer (some ⟨N,0,none⟩)]) Tryz.func142 rfl (by kernel_rfl) (by simp) ?_
 refine Pl.az ?_
 refine Pl.ay (by kernel_rfl) ?_
 refine Pl.aj trivial rfl rfl rfl rfl rfl ?_
 refine Pl.ak ?_
 refine Pl.az ?_
 refine Pl.az ?_
 refine Pl.ay (by kernel_rfl) ?_
 refine Pl.ah trivial rfl rfl rfl rfl rfl ?_
 refine Pl.aH trivial rfl rfl rfl rfl rfl (Cb.limbs hN) ?_
 refine bG trivial rfl rfl rfl rfl rfl ?_
 refine Pl.aI (v:=(.bool true)) trivial rfl rfl rfl rfl rfl rfl (fun X=>jw (decide_eq_true (by omega)) X) ?_
 refine Pl.ak ?_
 refine Pl.dh rfl ?_
 refine Pl.az ?_
 refine Pl.ay (by kernel_rfl) ?_
 refine Pl.aH trivial rfl rfl rfl rfl rfl (Cb.limbs hN) ?_
 refine Pl.ah trivial rfl rfl rfl rfl rfl ?_
 obtain ⟨p_1,aA2,aA3⟩:=U.at hu hj
 refine aP trivial rfl rfl rfl rfl rfl rfl aA2 ?_
 refine Pl.aH trivial rfl rfl rfl rfl rfl (aA3 _ (Ext.refl _)) ?_
 refine mI (v:=(.int .u64 ((lb xs j:Nat):Int))) trivial rfl rfl rfl rfl rfl (fun X=>wF (aQ hx j) X) ?_
 refine Pl.aj trivial rfl rfl rfl rfl rfl ?_
 refine Pl.ak ?_
 refine Pl.bU rfl rfl ?_
 exact ⟨rfl,Ext.refl _⟩
theorem Rj (w:World) (N:Nat) (T:TypeId) (v:Value) (xs:List Nat) (j:Nat) (hN:Cb w N T [v]) (hu:U w v xs) (hj:¬ j<xs.length) :
  Calls Tryz.prog 142 #[.int .i64 (j:Int),.pointer (some ⟨N,0,none⟩)] w fun e w'=>e = .returned (.int .u64 (lb xs j:Nat))∧Ext w w':=by
 have hx:=U.apo hu
 obtain ⟨A,c,rfl,-⟩:=id hu
 refine Pl.aV (n:=13) (vs:=[.int .i64 (j:Int),.pointer (some ⟨N,0,none⟩)]) Tryz.func142 rfl (by kernel_rfl) (by simp) ?_
 refine Pl.az ?_
 refine Pl.ay (by kernel_rfl) ?_
 refine Pl.aj trivial rfl rfl rfl rfl rfl ?_
 refine Pl.ak ?_
 refine Pl.az ?_
 refine Pl.az ?_
 refine Pl.ay (by kernel_rfl) ?_
 refine Pl.ah trivial rfl rfl rfl rfl rfl ?_
 refine Pl.aH trivial rfl rfl rfl rfl rfl (Cb.limbs hN) ?_
 refine bG trivial rfl rfl rfl rfl rfl ?_
 refine Pl.aI (v:=(.bool false)) trivial rfl rfl rfl rfl rfl rfl (fun X=>jw (decide_eq_false (by omega)) X) ?_
 refine Pl.ak ?_
 refine Pl.bD rfl ?_
 refine Pl.bN ?_
 refine Pl.az ?_
 refine Pl.ay (by kernel_rfl) ?_
 refine Pl.aj trivial rfl rfl rfl rfl rfl ?_
 refine Pl.ak ?_
 refine Pl.bU rfl rfl ?_
 exact ⟨by rw [kE (Nat.le_of_not_lt hj)];rfl,Ext.refl _⟩
theorem Oh (w:World) (N:Nat) (T:TypeId) (v:Value) (xs:List Nat) (j:Nat) (hN:Cb w N T [v]) (hu:U w v xs) :
  Calls Tryz.prog 142 #[.int .i64 (j:Int),.pointer (some ⟨N,0,none⟩)] w fun e w'=>e = .returned (.int .u64 (lb xs j:Nat))∧Ext w w':=by
 by_cases hj:j<xs.length
 · exact UE w N T v xs j hN hu hj
 · exact Rj w N T v xs j hN hu hj
end Go.Proofs.YtnilonnkcbkdmaaGreatDoor
/- The leading bits of one number. -/
namespace Go.Proofs.YtnilonnkcbkdmaaGreatDoor
open Go.RowKit
set_option linter.all false
set_option maxRecDepth 100000
set_option maxHeartbeats 8000000
namespace EQK
set_option linter.all false
set_option maxRecDepth 100000
set_option maxHeartbeats 8000000
theorem agi (u:Array Value) (X:World):(callFunc 142 u).run Tryz.prog X = .ok (.enter 142 u) X:=Pl.enters Tryz.func142 (by kernel_rfl) rfl u X
end EQK
open EQK
section
variable {L:List Oper} {S:World→Prop} {K:List (Nat × Value)→World→Prop} {k:Bool} {i m d:Nat} {o:Oper} {x:Operand} {r:List (Bool × Nat × Nat)} {l:List (Nat × Value)} {w:World} {A:Option Addr} {n c:Nat}
theorem al8 {T:TypeId} (ho:Pl.nth L i=some o) (hp:o.op = .box T x) (hd:o.dst=some d) (hg:o.guard=none) (hx:Pl.ig l x=some (.slice A n c)) (hS:∀ Y,Ext w Y→S Y)
  (h:∀ N w',Ext w w'→Cb w' N T [.slice A n c]→Pl.gY Tryz.prog L S K r ((d,.pointer (some ⟨N,0,none⟩))::l) w'):Pl.gY Tryz.prog L S K ((false,i,m)::r) l w:=by
 have e1:=(Ext.refl w).alloc (.cells #[.slice A n c] T)
 refine Pl.kU (w':=w.alloc (.cells #[.slice A n c] T)) (v:=.pointer (some ⟨w.heap.size,0,none⟩)) ho hd (by rw [hg];rfl) (fun ρ hρ=>?_) (hS _ e1) (h _ _ e1 (Cb.new w T [.slice A n c]))
 unfold execOp;rw [hp]
 refine Pl.jy _ ?_
 rw [hρ.ig hx]
 go_simp
end
section
variable {x y:Operand}
theorem agj (a s:Nat):((a:Nat):Int)*2^s=((a*2^s:Nat):Int):=by rw [Int.natCast_mul,Int.natCast_pow];rfl
theorem Oi (a s:Nat):((a:Nat):Int)/2^s=((a/2^s:Nat):Int):=by rw [Int.natCast_ediv,Int.natCast_pow];rfl
theorem avN {a s:Nat} (hs:s≤32) (h:a*2^s<18446744073709551616) (X:World):(do eqGuard .shl 73 x y (.int .u64 (a:Int)) (.int .i64 (s:Int));binOp .shl 73 (.int .u64 (a:Int)) (.int .i64 (s:Int)):Sem Value).run Tryz.prog X = .ok (.int .u64 ((a*2^s:Nat):Int)) X:=by
 have e:=agj a s
 have w1:=w64 h
 have h0:¬ ((s:Int)<0):=by omega
 have h1:¬ (64≤s):=by omega
 have h2:(s:Int).toNat=s:=by omega
 clear h
 generalize a*2^s=c at *
 go_simp
theorem avO {a s:Nat} (hs:s≤32) (h:a<18446744073709551616) (X:World):(do eqGuard .shr 73 x y (.int .u64 (a:Int)) (.int .i64 (s:Int));binOp .shr 73 (.int .u64 (a:Int)) (.int .i64 (s:Int)):Sem Value).run Tryz.prog X = .ok (.int .u64 ((a/2^s:Nat):Int)) X:=by
 have e:=Oi a s
 have hc:=Nat.div_le_self a (2^s)
 have w1:=w64 (c:=a/2^s) (by omega)
 have h0:¬ ((s:Int)<0):=by omega
 have h1:¬ (64≤s):=by omega
 have h2:(s:Int).toNat=s:=by omega
 clear h hc
 generalize a/2^s=c at *
 go_simp
theorem apq {a:Nat} {z:Int} (hz:z=32) (h:a*2^32<18446744073709551616) (X:World):(do eqGuard .shl 73 x y (.int .u64 (a:Int)) (.int .u64 z);binOp .shl 73 (.int .u64 (a:Int)) (.int .u64 z):Sem Value).run Tryz.prog X = .ok (.int .u64 ((a*2^32:Nat):Int)) X:=by
 subst hz
 have e:(a:Int)*4294967296=((a*2^32:Nat):Int):=by omega
 have w1:=w64 h
 clear h
 generalize a*2^32=c at *
 go_simp
end
theorem UF (w:World) (N M:Nat) (T R:TypeId) (v:Value) (xs:List Nat) (n by':Nat) (hu:U w v xs) (hN:Cb w N T [.int .i64 (n:Int)]) (hM:Cb w M R [.int .i64 (by':Int)]) (hn:3≤n∧n≤1000000) (hby:by'≤32∧0<1) (h64:(lb xs (n-1)*2^32+lb xs (n-2))*2^by'<18446744073709551616) (hbig:(lb xs (n-1)*2^32+lb xs (n-2))*2^by'+lb xs (n-3)/2^(32-by')<18446744073709551616) :
  Calls Tryz.prog 141 #[v,.pointer (some ⟨N,0,none⟩),.pointer (some ⟨M,0,none⟩)] w fun e w'=>e = .returned (.int .u64 ((lb xs (n-1)*2^32+lb xs (n-2))*2^by'+lb xs (n-3)/2^(32-by'):Nat))∧Ext w w':=by
 have hx:=U.apo hu
 have ha:=aQ hx (n-1)
 have hb:=aQ hx (n-2)
 have hc:=aQ hx (n-3)
 refine Pl.aV (n:=27) (vs:=[v,.pointer (some ⟨N,0,none⟩),.pointer (some ⟨M,0,none⟩)]) Tryz.func141 rfl (by kernel_rfl) (by simp) ?_
 refine Pl.az ?_
 refine Pl.ay (by kernel_rfl) ?_
 obtain ⟨A_1,c_1,rfl,-⟩:=id hu
 refine al8 rfl rfl rfl rfl rfl (fun _ _=>trivial) ?_
 intro N1 w1 hB1 ib1
 refine Pl.aj trivial rfl rfl rfl rfl rfl ?_
 refine Pl.ak ?_
 refine Pl.az ?_
 refine Pl.ay (by kernel_rfl) ?_
 refine Pl.oJ trivial rfl rfl rfl rfl rfl rfl ?_
 refine Pl.aj trivial rfl rfl rfl rfl rfl ?_
 refine Pl.ak ?_
 refine Pl.az ?_
 refine Pl.iN (S:=fun X=>Ext w1 X) [(true,0,0),(true,1,1),(true,2,3),(true,5,7),(true,6,39),(true,7,103),(true,10,231),(true,12,1255),(true,13,5351),(true,14,13543),(true,16,29927),(true,17,95463),(false,3,226535),(true,4,226543),(false,8,226559),(true,9,226815),(true,11,227327),(false,15,229375),(true,18,262143),(true,19,524287),(true,20,1048575)] fo Pl.aD (by kernel_rfl) (Ext.drew (Ext.refl w1)) ?_
 generalize w1.drew=w2
 intro hB2
 have hS2:=hB2
 refine Pl.ah hS2 rfl rfl rfl rfl rfl ?_
 refine Pl.aR hS2 rfl rfl rfl rfl rfl (fun X hX=>Cb.int (Cb.ext (Cb.ext hN hB1) hX)) ?_
 refine Pl.aI (v:=(.int .i64 ((n-1:Nat):Int))) hS2 rfl rfl rfl rfl rfl rfl (fun X=>j6 (by omega) (by omega) (by omega) X) ?_
 refine Pl.ah hS2 rfl rfl rfl rfl rfl ?_
 refine Pl.aR hS2 rfl rfl rfl rfl rfl (fun X hX=>Cb.int (Cb.ext (Cb.ext hN hB1) hX)) ?_
 refine Pl.aI (v:=(.int .i64 ((n-2:Nat):Int))) hS2 rfl rfl rfl rfl rfl rfl (fun X=>j6 (by omega) (by omega) (by omega) X) ?_
 refine Pl.aR hS2 rfl rfl rfl rfl rfl (fun X hX=>Cb.int (Cb.ext (Cb.ext hM hB1) hX)) ?_
 refine Pl.ah hS2 rfl rfl rfl rfl rfl ?_
 refine Pl.aR hS2 rfl rfl rfl rfl rfl (fun X hX=>Cb.int (Cb.ext (Cb.ext hN hB1) hX)) ?_
 refine Pl.aI (v:=(.int .i64 ((n-3:Nat):Int))) hS2 rfl rfl rfl rfl rfl rfl (fun X=>j6 (by omega) (by omega) (by omega) X) ?_
 refine Pl.aR hS2 rfl rfl rfl rfl rfl (fun X hX=>Cb.int (Cb.ext (Cb.ext hM hB1) hX)) ?_
 refine Pl.aI (v:=(.int .i64 ((32-by':Nat):Int))) hS2 rfl rfl rfl rfl rfl rfl (fun X=>j6 (by omega) (by omega) (by omega) X) ?_
 have agk:=Cb.ext ib1 hB2
 have ak3:=U.below hu (Ext.below hB1 hB2)
 refine Pl.iB rfl rfl rfl rfl rfl rfl agi ?_
 refine Calls.mono (Oh _ N1 _ _ xs (n-1) agk ak3) ?_
 rintro e w3 ⟨rfl,hB3⟩
 have Ex:=Ext.below hS2 hB3
 refine ⟨_,rfl,Ex,?_⟩
 refine Pl.aI (v:=(.int .u64 ((lb xs (n-1)*2^32:Nat):Int))) Ex rfl rfl rfl rfl rfl rfl (fun X=>apq (by decide) (by omega) X) ?_
 have JI:=Cb.ext agk hB3
 have ak4:=U.below ak3 hB3
 refine Pl.iB rfl rfl rfl rfl rfl rfl agi ?_
 refine Calls.mono (Oh _ N1 _ _ xs (n-2) JI ak4) ?_
 rintro e w4 ⟨rfl,hB4⟩
 have pG:=Ext.below Ex hB4
 refine ⟨_,rfl,pG,?_⟩
 refine Pl.aI (v:=(.int .u64 ((lb xs (n-1)*2^32+lb xs (n-2):Nat):Int))) pG rfl rfl rfl rfl rfl rfl (fun X=>avM (i:=32) (by omega) rfl (by omega) X) ?_
 refine Pl.aI (v:=(.int .u64 (((lb xs (n-1)*2^32+lb xs (n-2))*2^by':Nat):Int))) pG rfl rfl rfl rfl rfl rfl (fun X=>avN hby.1 h64 X) ?_
 have UG:=Cb.ext JI hB4
 have avP:=U.below ak4 hB4
 refine Pl.iB rfl rfl rfl rfl rfl rfl agi ?_
 refine Calls.mono (Oh _ N1 _ _ xs (n-3) UG avP) ?_
 rintro e w5 ⟨rfl,bH⟩
 have hS5:=Ext.below pG bH
 refine ⟨_,rfl,hS5,?_⟩
 refine Pl.aI (v:=(.int .u64 ((lb xs (n-3)/2^(32-by'):Nat):Int))) hS5 rfl rfl rfl rfl rfl rfl (fun X=>avO (by omega) (by omega) X) ?_
 refine Pl.aI (v:=(.int .u64 (((lb xs (n-1)*2^32+lb xs (n-2))*2^by'+lb xs (n-3)/2^(32-by'):Nat):Int))) hS5 rfl rfl rfl rfl rfl rfl (fun X=>avM (agh hby.1 hc) rfl hbig X) ?_
 refine Pl.aj hS5 rfl rfl rfl rfl rfl ?_
 refine Pl.ak ?_
 refine Pl.bU rfl rfl ?_
 exact ⟨rfl,(Ext.below hB1 (Ext.below hB2 (Ext.below hB3 (Ext.below hB4 bH))))⟩
end Go.Proofs.YtnilonnkcbkdmaaGreatDoor
/- How many leading bits are 0; what the leading bits are. -/
namespace Go.Proofs.YtnilonnkcbkdmaaGreatDoor
open Go.RowKit
set_option linter.all false
set_option maxRecDepth 100000
set_option maxHeartbeats 8000000
namespace EQL
set_option linter.all false
set_option maxRecDepth 100000
set_option maxHeartbeats 8000000
theorem avQ (u:Array Value) (X:World):(callFunc 100 u).run Tryz.prog X = .ok (.enter 100 u) X:=Pl.enters Tryz.func100 (by kernel_rfl) rfl u X
end EQL
open EQL
theorem aju (w:World) (x:Nat) (h:x<4294967296):Calls Tryz.prog 100 #[.int .u32 (x:Int)] w fun e w'=>e = .returned (.int .i64 (bS x:Nat))∧Ext w w' :=
 (ET w x h).mono fun e w' ⟨he,hw⟩=>⟨he,hw ▸ Ext.refl w⟩
theorem avR {x:Nat} (h:x<4294967296):bS x≤32:=dB (k:=32) h
theorem agl {m n by':Nat} (hn:3≤n) (hm:m<4294967296^n) (hb:by'≤32) :
  (lb (limbs m) (n-1)*2^32+lb (limbs m) (n-2))*2^by'+lb (limbs m) (n-3)/2^(32-by')=m/2^(32*(n-3)+(32-by')):=by
 obtain ⟨k,rfl⟩:∃ k,n=k+3:=⟨n-3,by omega⟩
 have e0:(4294967296:Nat)=2^32:=by decide
 have h1:m/4294967296^k<4294967296^3:=by
  rw [Nat.div_lt_iff_lt_mul (Nat.pow_pos (by decide)),← Nat.pow_add,Nat.add_comm 3 k];exact hm
 have d1:m/4294967296^(k+1)=m/4294967296^k/4294967296:=by rw [Nat.div_div_eq_div_mul,← Nat.pow_succ]
 have d2:m/4294967296^(k+2)=m/4294967296^k/4294967296/4294967296:=by rw [← d1,Nat.div_div_eq_div_mul,← Nat.pow_succ]
 rw [Nat.pow_add 2,Nat.pow_mul 2 32,← Nat.div_div_eq_div_mul]
 rw [rR,rR,rR,show k+3-1=k+2 from rfl,show k+3-2=k+1 from rfl,show k+3-3=k from rfl,d1,d2,← aak hb,← e0]
 congr 1
 generalize m/4294967296^k=h at *
 omega
theorem En {m a n:Nat} (hn:3≤n) (hl:(limbs a).length=n) (hm:m≤a):m/2^(32*(n-3)+(32-(32-bS (lb (limbs a) (n-1)))))<18446744073709551616:=by
 have ha:a≠0:=by rintro rfl;rw [bf] at hl;simp at hl;omega
 have hb:=jY a ha
 rw [hl] at hb
 have h2:=dI a
 have h32:bS (lb (limbs a) (n-1))≤32:=dB (k:=32) (aQ (fun x hx=>mD a x hx) _)
 rw [Nat.div_lt_iff_lt_mul (Nat.two_pow_pos _),show (18446744073709551616:Nat)=2^64 from by decide,← Nat.pow_add]
 refine Nat.lt_of_le_of_lt hm (Nat.lt_of_lt_of_le h2 (Nat.pow_le_pow_right (by decide) ?_))
 omega
theorem UH (w:World) (x:Nat) (hx:x<4294967296) :
  Calls Tryz.prog 140 #[.int .u32 (x:Int)] w fun e w'=>e = .returned (.int .i64 (32-bS x:Nat))∧Ext w w':=by
 have h32:=avR hx
 refine Pl.aV (n:=6) (vs:=[.int .u32 (x:Int)]) Tryz.func140 rfl (by kernel_rfl) (by simp) ?_
 refine Pl.az ?_
 refine Pl.ay (by kernel_rfl) ?_
 refine Pl.aj trivial rfl rfl rfl rfl rfl ?_
 refine Pl.ak ?_
 refine Pl.az ?_
 refine Pl.ay (by kernel_rfl) ?_
 refine Pl.ah trivial rfl rfl rfl rfl rfl ?_
 refine Pl.aA rfl rfl rfl rfl rfl avQ ?_
 refine Calls.mono (aju _ x hx) ?_
 rintro e w1 ⟨rfl,hB1⟩
 refine ⟨_,rfl,trivial,?_⟩
 refine Pl.aI (v:=(.int .i64 ((32-bS x:Nat):Int))) trivial rfl rfl rfl rfl rfl rfl (fun X=>j6 (by omega) (by omega) (by omega) X) ?_
 refine Pl.aj trivial rfl rfl rfl rfl rfl ?_
 refine Pl.ak ?_
 refine Pl.bU rfl rfl ?_
 exact ⟨rfl,hB1⟩
end Go.Proofs.YtnilonnkcbkdmaaGreatDoor
