/- The document's rows. -/
import Derived.Test.YtnilonnkcbkdmaaGreatDoorBbe
import Derived.Test.YtnilonnkcbkdmaaGreatDoorBbf
import Derived.Test.YtnilonnkcbkdmaaGreatDoorBbg
import Derived.Test.YtnilonnkcbkdmaaGreatDoorBbc

namespace Go.Proofs.YtnilonnkcbkdmaaGreatDoor
open Go.RowKit
set_option linter.all false
set_option maxRecDepth 100000
set_option maxHeartbeats 8000000
theorem Gr.cells {ok:Value→Prop} {w:World} {base n size g cap:Nat} {e:TypeId} {c part d:List Value} (h:Pl.Gr ok w base e size (.slice (some ⟨g,0,none⟩) n cap) n (c++(part++d))):∃ cur,w.heap[g]?=some (.cells cur e (0,0))∧base≤g∧((cur.toList.drop c.length).take part.length=part):=by
 rcases h.2 with ⟨h1,_⟩ | ⟨g',cap',cur,h1,hb,hgg,_,_,_,hx,_⟩
 · cases h1
 · cases h1
   refine ⟨cur,hgg,hb,?_⟩
   have e:cur.toList=c++(part++(d++cur.toList.drop (n*size))):=by
    rw [← List.append_assoc part,← List.append_assoc c,← hx,List.take_append_drop]
   rw [e,List.drop_left,List.take_left]
theorem Gr.shape {ok:Value→Prop} {w:World} {base n size:Nat} {e:TypeId} {v:Value} {xs:List Value} (h:Pl.Gr ok w base e size v n xs) (hn:0<n):∃ g cap,v = .slice (some ⟨g,0,none⟩) n cap∧g<w.heap.size:=by
 rcases h.2 with ⟨_,h1⟩ | ⟨g,cap,cur,h1,hb,hgg,_⟩
 · omega
 · exact ⟨g,cap,h1,(Array.getElem?_eq_some_iff.1 hgg).1⟩
def Rw (w:World) (r:List Value) (n:Nat) (u v:Int):Prop:=∃ A c bu Au nu cu bv Av nv cv,r=[.slice A (limbs n).length c,.bool bu,.slice Au nu cu,.bool bv,.slice Av nv cv] ∧
 Un w (.slice A (limbs n).length c) n∧Zn w (.agg #[.bool bu,.slice Au nu cu]) u∧Zn w (.agg #[.bool bv,.slice Av nv cv]) v
theorem Rw.kp {w w':World} {r:List Value} {n:Nat} {u v:Int} (h:Rw w r n u v) (k:Kp w w'):Rw w' r n u v:=by
 obtain ⟨A,c,bu,Au,nu,cu,bv,Av,nv,cv,e,h1,h2,h3⟩:=h
 exact ⟨A,c,bu,Au,nu,cu,bv,Av,nv,cv,e,Un.kp h1 k,Zn.kp h2 k,Zn.kp h3 k⟩
def RM (a b P Q:Nat) (uP vP uQ vQ:Int) (done:List Nat):Prop:=quo a b=done++quo P Q∧cf (quo P Q) uP uQ=cf (quo a b) 1 0∧cf (quo P Q) vP vQ=cf (quo a b) 0 1∧Nat.gcd P Q=Nat.gcd a b ∧
 Cf b (max b 1) P Q uP uQ∧Cf a (max a 1) P Q vP vQ∧Sn P 90∧Sn Q 90
theorem RM.start {a b:Nat} (ha:Sn a 90) (hb:Sn b 90):RM a b a b 1 0 0 1 []:=⟨rfl,rfl,rfl,rfl,Cf.first a (Nat.le_max_left b 1) (Nat.le_max_right b 1),Cf.second b (Nat.le_max_left a 1) (Nat.le_max_right a 1),ha,hb⟩
theorem RM.step {a b P Q:Nat} {uP vP uQ vQ:Int} {done:List Nat} (h:RM a b P Q uP vP uQ vQ done) (h0:Q≠0):RM a b Q (P%Q) uQ vQ (uP-((P/Q:Nat):Int)*uQ) (vP-((P/Q:Nat):Int)*vQ) (done++[P/Q]):=by
 obtain ⟨h1,h2,h3,h4,h5,h6,h7,h8⟩:=h
 rw [fH h0] at h1 h2 h3
 exact ⟨by rw [h1,List.append_assoc];rfl,h2,h3,(rU P Q).trans h4,(h5.step h0).1,(h6.step h0).1,h8,Sn.mod h8 h0⟩
theorem RM.short {a b P Q:Nat} {uP vP uQ vQ:Int} {done:List Nat} (h:RM a b P Q uP vP uQ vQ done) (hb:Sn b 90):done.length≤64000:=by
 have hq:=lH (a:=a) (hb.le (show 90≤1000 by decide))
 rw [h.1] at hq
 simp at hq;omega
section
variable {L:List Oper} {S:World→Prop} {K:List (Nat × Value)→World→Prop} {i m d:Nat} {o:Oper} {x y:Operand} {r:List (Bool × Nat × Nat)} {l:List (Nat × Value)} {w:World}
theorem nN {A:Option Addr} {k:Bool} {n c:Nat} (hS:S w) (ho:Pl.nth L i=some o) (hop:o.op = .call { callee:=.builtin .len,args:=#[x],argTypes:=#[30] }) (hd:o.dst=some d) (hg:Pl.gd L l o.guard=some true) (hx:Pl.ig l x=some (.slice A n c))
  (h:Pl.gY Tryz.prog L S K r ((d,.int .i64 (n:Int))::l) w):Pl.gY Tryz.prog L S K ((k,i,m)::r) l w :=
 Pl.dV hS ho hd hg (fun ρ hρ X _=>by
  obtain ⟨d',op',t',ps',axm,gu'⟩:=o
  cases hop
  have e:=hρ.ig hx
  simp [go_sem,e]) h
end
end Go.Proofs.YtnilonnkcbkdmaaGreatDoor
/- The document's inverses. -/
namespace Go.Proofs.YtnilonnkcbkdmaaGreatDoor
open Go.RowKit
set_option linter.all false
set_option maxRecDepth 100000
set_option maxHeartbeats 8000000
namespace Ez
set_option linter.all false
set_option maxRecDepth 100000
set_option maxHeartbeats 8000000
theorem gT (u:Array Value) (X:World):(callFunc 19 u).run Tryz.prog X = .ok (.enter 19 u) X:=Pl.enters Tryz.func19 (by kernel_rfl) rfl u X
end Ez
open Ez
end Go.Proofs.YtnilonnkcbkdmaaGreatDoor
