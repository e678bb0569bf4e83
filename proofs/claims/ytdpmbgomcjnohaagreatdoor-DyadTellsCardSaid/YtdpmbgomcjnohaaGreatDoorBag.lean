/- The mathematics of reciprocals by steps, of the quotient by a reciprocal, and of the document's division bit by bit. -/
import Derived.Test.YtdpmbgomcjnohaaGreatDoorBae
import Derived.Test.YtdpmbgomcjnohaaGreatDoorBad
import Derived.Test.YtdpmbgomcjnohaaGreatDoorBac
import Derived.Test.YtdpmbgomcjnohaaGreatDoorRows
import Derived.Test.YtdpmbgomcjnohaaGreatDoorCards
import Derived.Test.YtdpmbgomcjnohaaGreatDoorTie
import Derived.SevenTiedAt
import Derived.LaidMore
import Derived.Stop.Joined
import Derived.JoinedOf
import Derived.JoinedAt
import Derived.Lib.SmallJoins
import Derived.Laws.BitsLemmas
import Derived.Deep.RegionHeld3
import Derived.Maps.AppendAt
import Derived.Deep.Cut
import Derived.Deep.CutRange
import Derived.Shelf.Bits.Mul64
import Derived.BigRegion
import Derived.Below
import Derived.Laws.OwnMore
import Derived.Deep.AppendLies
import Derived.Deep.Draws
import Derived.Lib.Hide
import Derived.Test.YtdpmbgomcjnohaaGreatDoorProg
import Derived.WalkKit
import Derived.ProofKit
import Derived.OpenShut
import Derived.JoinedCond
import Derived.RegionTactic
import Derived.LoopTactic
import Derived.BigQuiet
import Derived.Deep.QuietTactic
import Derived.Outline
import Derived.Laws.AppendOwn
import Derived.Laws.BitsAllLaws
import Derived.Laws.Bits64
import Derived.OwnWalk
import Derived.RangeFuncNested
import Derived.RangeFuncBound
import Derived.RangeFuncCalls
import Derived.RangeFuncLeaves
import Derived.RangeFuncBox
import Derived.Shelf.Abstract
import Derived.Shelf.RegionOpen
import Derived.OwnWalkIn
import Derived.TacticsInMore
import Derived.LoopNIn
import Derived.LoopIn

namespace Go.Proofs.YtdpmbgomcjnohaaGreatDoor
open Go.RowKit
set_option linter.unusedVariables false
set_option maxHeartbeats 400000
theorem Wq (A b bit Q r:Nat) (hQ:A/b=Q) (hr:A%b=r) (hlt:2*r+bit<b):(2*A+bit)/b=2*Q∧(2*A+bit)%b=2*r+bit:=by
 have h:=Nat.div_add_mod A b
 rw [hQ,hr] at h
 have h1:2*A+bit=(2*r+bit)+b*(2*Q):=by
  rw [Nat.mul_left_comm b 2 Q];omega
 rw [h1]
 refine ⟨?_,?_⟩
 · rw [Nat.add_mul_div_left _ _ (by omega),Nat.div_eq_of_lt hlt,Nat.zero_add]
 · rw [Nat.add_mul_mod_self_left,Nat.mod_eq_of_lt hlt]
theorem Tq (A b bit Q r:Nat) (hb:0<b) (hbit:bit≤1) (hQ:A/b=Q) (hr:A%b=r) (hge:b≤2*r+bit):(2*A+bit)/b=2*Q+1∧(2*A+bit)%b=2*r+bit-b:=by
 have h:=Nat.div_add_mod A b
 have hrl:r<b:=by rw [← hr];exact Nat.mod_lt _ hb
 rw [hQ,hr] at h
 have h1:2*A+bit=(2*r+bit-b)+b*(2*Q+1):=by
  rw [Nat.mul_add,Nat.mul_left_comm b 2 Q];omega
 rw [h1]
 have hlt:2*r+bit-b<b:=by omega
 refine ⟨?_,?_⟩
 · rw [Nat.add_mul_div_left _ _ hb,Nat.div_eq_of_lt hlt,Nat.zero_add]
 · rw [Nat.add_mul_mod_self_left,Nat.mod_eq_of_lt hlt]
end Go.Proofs.YtdpmbgomcjnohaaGreatDoor
/- What every statement's proof ends with: the table read; the arguments opened, and read again behind the call. -/
namespace Go.Proofs.YtdpmbgomcjnohaaGreatDoor
open Go.ChangeShapes Go.WideShapes Go.ChangeAt Go.RowKit
set_option linter.unusedVariables false
set_option maxRecDepth 100000
theorem own:ownKnob Tryz.prog.godebug=none:=by kernel_rfl
end Go.Proofs.YtdpmbgomcjnohaaGreatDoor
/- The document's own words that every statement of this stage takes: primes, rows of numbers, lengths. -/
namespace Go.Proofs.YtdpmbgomcjnohaaGreatDoor
open Go.ChangeShapes Go.WideShapes Go.ChangeAt Go.RowKit
set_option linter.unusedVariables false
set_option maxHeartbeats 400000
def Uu (p k:Nat) (l:List Nat):List Nat:=(List.range (2^k)).map fun t=>lb l t%p
theorem QM (p k:Nat) (l:List Nat):(Uu p k l).length=2^k:=by simp [Uu]
theorem Uv (p k:Nat) (l:List Nat) (j:Nat) (h:j<2^k):lb (Uu p k l) j=lb l j%p:=Ko _ _ _ h
structure QN (p n:Nat) (l:List Nat) (t:Nat) (o:List Nat):Prop where
 len:o.length=n
 lt:∀ x∈o,x<p
 at_:∀ j,lb o j=if j<t then lb l j%p else 0
theorem QN.step {p n:Nat} {l:List Nat} {t:Nat} {o:List Nat} (H:QN p n l t o) (hp:0<p) (ht:t<n):QN p n l (t+1) (o.set t (lb l t%p)):=by
 refine ⟨by simp [H.len],dY H.lt (Nat.mod_lt _ hp),fun j=>?_⟩
 rw [iN _ _ _ _ (by rw [H.len];exact ht),H.at_ j]
 by_cases e:t=j
 · subst e;rw [if_pos rfl,if_pos (by omega)]
 · rw [if_neg e]
   by_cases c:j<t
   · rw [if_pos c,if_pos (by omega)]
   · rw [if_neg c,if_neg (by omega)]
theorem QN.done {p k:Nat} {l:List Nat} {t:Nat} {o:List Nat} (H:QN p (2^k) l t o) (ht:t=2^k∨l.length≤t):o=Uu p k l:=by
 refine mP (by rw [H.len,QM]) fun j hj=>?_
 rw [H.len] at hj
 rw [Uv _ _ _ _ hj,H.at_ j]
 by_cases c:j<t
 · rw [if_pos c]
 · rw [if_neg c,pz (o:=l) (by omega),Nat.zero_mod]
end Go.Proofs.YtdpmbgomcjnohaaGreatDoor
/- Lengths of powers of 2; the row of a question; a question among the arguments. -/
namespace Go.Proofs.YtdpmbgomcjnohaaGreatDoor
open Go.ChangeShapes Go.WideShapes Go.ChangeAt Go.RowKit
set_option linter.unusedVariables false
set_option maxHeartbeats 400000
def ri (I:Int):Nat:=(I%256).toNat%3
end Go.Proofs.YtdpmbgomcjnohaaGreatDoor
/- What the transform does, number by number. -/
namespace Go.Proofs.YtdpmbgomcjnohaaGreatDoor
open Go.RowKit
set_option linter.unusedVariables false
def ts (i k:Nat) (b:Bool):Nat:=if b then sh (fd i) (2^k) else 1
end Go.Proofs.YtdpmbgomcjnohaaGreatDoor
/- A question in its box; slices opened. -/
namespace Go.Proofs.YtdpmbgomcjnohaaGreatDoor
open Go.RowKit
set_option linter.unusedVariables false
set_option maxHeartbeats 400000
def Ax (w:World) (B:Nat) (I K:Int) (sl:Value) (bk:Bool):Prop:=B<w.heap.size∧w.cell? ⟨B,0,none⟩=some (.int .i64 I)∧w.cell? ⟨B,1,none⟩=some (.int .i64 K)∧w.cell? ⟨B,2,none⟩=some sl∧w.cell? ⟨B,3,none⟩=some (.bool bk)
theorem Ax.ext {w w':World} {B:Nat} {I K:Int} {sl:Value} {bk:Bool} (h:Ax w B I K sl bk) (hB:Ext w w'):Ax w' B I K sl bk:=by
 obtain ⟨h0,h1,h2,h3,h4⟩:=h
 have hs:=hB.size
 have hc:=fun o=>hB.cell (p:=⟨B,o,none⟩) h0
 exact ⟨by omega,by rw [hc];exact h1,by rw [hc];exact h2,by rw [hc];exact h3,by rw [hc];exact h4⟩
theorem U.opened {w:World} {v:Value} {xs:List Nat} (h:U w v xs) {n:Nat} (hn:xs.length=n) (h0:0<n):∃ ad c,v = .slice (some ad) n c∧n≤c∧ad.block<w.heap.size∧∀ j,j<n→w.cell? (ad.add j)=some (.int .u32 (lb xs j:Nat)):=by
 obtain ⟨A,c,rfl,⟨hc,_⟩,_,hr⟩:=h
 subst hn
 obtain ⟨ad,rfl,hb,hcell⟩:=hr h0
 exact ⟨ad,c,rfl,hc,hb,hcell⟩
end Go.Proofs.YtdpmbgomcjnohaaGreatDoor
/- A row that grows while others lie by. -/
namespace Go.Proofs.YtdpmbgomcjnohaaGreatDoor
open Go.RowKit
set_option linter.unusedVariables false
set_option maxHeartbeats 400000
structure Apart (B:Nat) (w0 w:World) (v:Value) (o:List Nat):Prop where
 own:Own w B v o
 but:But B w0 w
 at_:∀ g,v.ownBlock=some g→g=B∨w0.heap.size≤g
theorem Apart.drew {B:Nat} {w0 w:World} {v:Value} {o:List Nat} (h:Apart B w0 w v o):Apart B w0 w.drew v o:=⟨h.own.drew,h.but.drew,h.at_⟩
theorem Apart.cell {B:Nat} {w0 w:World} {v:Value} {o:List Nat} (h:Apart B w0 w v o) {p:Addr} (hp:p.block<w0.heap.size) (hne:p.block≠B):w.cell? p=w0.cell? p:=h.but.cell hp hne
end Go.Proofs.YtdpmbgomcjnohaaGreatDoor
/- A row laid in, modulo a prime, and down. -/
namespace Go.Proofs.YtdpmbgomcjnohaaGreatDoor
open Go.RowKit
set_option linter.unusedVariables false
set_option maxHeartbeats 400000
def ml (f:Fd) (n:Nat) (l:List Nat):List Nat:=(List.range n).map fun j=>uE f (lb l j)
theorem XI (f:Fd) (n:Nat) (l:List Nat):(ml f n l).length=n:=by simp [ml]
theorem ZV (f:Fd) (n:Nat) (l:List Nat) (j:Nat) (h:j<n):lb (ml f n l) j=uE f (lb l j):=Ko _ _ _ h
structure ZW (f:Fd) (n:Nat) (l:List Nat) (j:Nat) (o:List Nat):Prop where
 len:o.length=n
 lt:∀ x∈o,x<f.p
 at_:∀ q,lb o q=if q<j then uE f (lb l q) else 0
theorem ZW.step {f:Fd} (hf:Good f) {n:Nat} {l:List Nat} {j:Nat} {o:List Nat} (H:ZW f n l j o) (hj:j<n):ZW f n l (j+1) (o.set j (uE f (lb l j))):=by
 refine ⟨by simp [H.len],dY H.lt (Mr f hf _),fun q=>?_⟩
 rw [iN _ _ _ _ (by rw [H.len];exact hj)]
 by_cases e:j=q
 · subst e;rw [if_pos rfl,if_pos (by omega)]
 · rw [if_neg e,H.at_ q]
   by_cases c:q<j
   · rw [if_pos c,if_pos (by omega)]
   · rw [if_neg c,if_neg (by omega)]
theorem Uw (l:List Nat) (j:Nat) (h:l.length≤j):lb l j=0:=by unfold lb;rw [List.getElem?_eq_none h];rfl
theorem NJ (f:Fd):uE f 0=0:=by unfold uE;rw [Nat.zero_mul,Nat.zero_mod]
theorem ZW.done {f:Fd} {n:Nat} {l:List Nat} {o:List Nat} (H:ZW f n l l.length o):o=ml f n l:=by
 refine mP (by rw [H.len,XI]) fun q hq=>?_
 rw [ZV f n l q (by rw [← H.len];exact hq),H.at_ q]
 by_cases c:q<l.length
 · rw [if_pos c]
 · rw [if_neg c,Uw l q (by omega),NJ]
end Go.Proofs.YtdpmbgomcjnohaaGreatDoor
/- Sums of products modulo a prime, by transforms. -/
namespace Go.Proofs.YtdpmbgomcjnohaaGreatDoor
open Go.RowKit
set_option linter.unusedVariables false
set_option maxHeartbeats 400000
theorem drawn {x y:World} (hB:Ext x.drew y):Ext x y:=((Ext.refl x).drew).below hB
structure Upd (n p:Nat) (G:Nat→Nat) (m:Nat) (l o:List Nat):Prop where
 len:o.length=n
 lt:∀ x∈o,x<p
 at_:∀ i,lb o i=if i<m then G i else lb l i
theorem Upd.step {n p:Nat} {G:Nat→Nat} {m:Nat} {l o:List Nat} (H:Upd n p G m l o) (hm:m<n) (hG:G m<p):Upd n p G (m+1) l (o.set m (G m)):=by
 refine ⟨by simp [H.len],dY H.lt hG,fun i=>?_⟩
 rw [iN _ _ _ _ (by rw [H.len];exact hm)]
 by_cases e:m=i
 · subst e;rw [if_pos rfl,if_pos (by omega)]
 · rw [if_neg e,H.at_ i]
   by_cases c:i<m
   · rw [if_pos c,if_pos (by omega)]
   · rw [if_neg c,if_neg (by omega)]
end Go.Proofs.YtdpmbgomcjnohaaGreatDoor
/- join: the number that has three rests, in three limbs. -/
namespace Go.Proofs.YtdpmbgomcjnohaaGreatDoor
open Go.RowKit
set_option linter.unusedVariables false
set_option maxHeartbeats 400000
set_option maxHeartbeats 1000000 in
theorem rJ (x y:Nat) (hx:x<18446744073709551616) (hy:y<18446744073709551616) (w:World) :
  Calls Tryz.prog 181 #[.int .u64 x,.int .u64 y] w fun e w'=>e = .returned (.tuple #[.int .u64 ((x*y/18446744073709551616:Nat):Int),.int .u64 ((x*y%18446744073709551616:Nat):Int)])∧w'=w:=by
 obtain ⟨bd,bt,bw,hhi⟩:=Lib.mul64_hi x y hx hy
 have ba:=Lib.half_mul_le (a:=x/4294967296) (b:=y/4294967296) (by omega) (by omega)
 have bb:=Lib.half_mul_le (a:=x/4294967296) (b:=y%4294967296) (by omega) (by omega)
 have bc:=Lib.half_mul_le (a:=x%4294967296) (b:=y/4294967296) (by omega) (by omega)
 have ba':x/4294967296*(y/4294967296)<18446744073709551616:=by omega
 have bb':x/4294967296*(y%4294967296)<18446744073709551616:=by omega
 have bc':x%4294967296*(y/4294967296)<18446744073709551616:=by omega
 have bh1:x/4294967296*(y/4294967296)+(x/4294967296*(y%4294967296)+x%4294967296*(y%4294967296)/4294967296)/4294967296<18446744073709551616:=by omega
 have bh:x/4294967296*(y/4294967296)+(x/4294967296*(y%4294967296)+x%4294967296*(y%4294967296)/4294967296)/4294967296+((x/4294967296*(y%4294967296)+x%4294967296*(y%4294967296)/4294967296)%4294967296+x%4294967296*(y/4294967296))/4294967296<18446744073709551616:=by omega
 go_enter Tryz.func181,Tryz.ntmps181
 go_wp2
 simp only [Mul64.maskN x hx,Mul64.maskN y hy,Mul64.divN,Mul64.mulN,Mul64.addN,Mul64.wrapN _ bd,Mul64.wrapN _ bb',Mul64.wrapN _ bt,Mul64.maskN _ bt,Mul64.wrapN _ bc',Mul64.wrapN _ bw,Mul64.wrapN _ ba',Mul64.wrapN _ bh1,Mul64.wrapN _ bh,Mul64.wrapM (x*y)]
 rw [hhi]
 go_ret2
 exact ⟨rfl,rfl⟩
theorem three (w:World) (B:Nat) (hB:w.heap.size=B) (f g h:Fd) :
  Bx ((((w.alloc (.cells #[.int .u32 (f.p:Int),.int .u32 (f.root:Int),.int .u32 (f.neg:Int),.int .u32 (f.square:Int),.int .u32 (f.ahead:Int)] 158)).alloc (.cells #[.int .u32 (g.p:Int),.int .u32 (g.root:Int),.int .u32 (g.neg:Int),.int .u32 (g.square:Int),.int .u32 (g.ahead:Int)] 158)).alloc (.cells #[.int .u32 (h.p:Int),.int .u32 (h.root:Int),.int .u32 (h.neg:Int),.int .u32 (h.square:Int),.int .u32 (h.ahead:Int)] 158)).drew) B f∧Bx ((((w.alloc (.cells #[.int .u32 (f.p:Int),.int .u32 (f.root:Int),.int .u32 (f.neg:Int),.int .u32 (f.square:Int),.int .u32 (f.ahead:Int)] 158)).alloc (.cells #[.int .u32 (g.p:Int),.int .u32 (g.root:Int),.int .u32 (g.neg:Int),.int .u32 (g.square:Int),.int .u32 (g.ahead:Int)] 158)).alloc (.cells #[.int .u32 (h.p:Int),.int .u32 (h.root:Int),.int .u32 (h.neg:Int),.int .u32 (h.square:Int),.int .u32 (h.ahead:Int)] 158)).drew) (B+1) g ∧
  Bx ((((w.alloc (.cells #[.int .u32 (f.p:Int),.int .u32 (f.root:Int),.int .u32 (f.neg:Int),.int .u32 (f.square:Int),.int .u32 (f.ahead:Int)] 158)).alloc (.cells #[.int .u32 (g.p:Int),.int .u32 (g.root:Int),.int .u32 (g.neg:Int),.int .u32 (g.square:Int),.int .u32 (g.ahead:Int)] 158)).alloc (.cells #[.int .u32 (h.p:Int),.int .u32 (h.root:Int),.int .u32 (h.neg:Int),.int .u32 (h.square:Int),.int .u32 (h.ahead:Int)] 158)).drew) (B+1+1) h∧Ext w ((((w.alloc (.cells #[.int .u32 (f.p:Int),.int .u32 (f.root:Int),.int .u32 (f.neg:Int),.int .u32 (f.square:Int),.int .u32 (f.ahead:Int)] 158)).alloc (.cells #[.int .u32 (g.p:Int),.int .u32 (g.root:Int),.int .u32 (g.neg:Int),.int .u32 (g.square:Int),.int .u32 (g.ahead:Int)] 158)).alloc (.cells #[.int .u32 (h.p:Int),.int .u32 (h.root:Int),.int .u32 (h.neg:Int),.int .u32 (h.square:Int),.int .u32 (h.ahead:Int)] 158)).drew):=by
 subst hB
 have h1:=Bx.new w f
 have h2:=Bx.new (w.alloc (.cells #[.int .u32 (f.p:Int),.int .u32 (f.root:Int),.int .u32 (f.neg:Int),.int .u32 (f.square:Int),.int .u32 (f.ahead:Int)] 158)) g
 have h3:=Bx.new ((w.alloc (.cells #[.int .u32 (f.p:Int),.int .u32 (f.root:Int),.int .u32 (f.neg:Int),.int .u32 (f.square:Int),.int .u32 (f.ahead:Int)] 158)).alloc (.cells #[.int .u32 (g.p:Int),.int .u32 (g.root:Int),.int .u32 (g.neg:Int),.int .u32 (g.square:Int),.int .u32 (g.ahead:Int)] 158)) h
 have s1:(w.alloc (.cells #[.int .u32 (f.p:Int),.int .u32 (f.root:Int),.int .u32 (f.neg:Int),.int .u32 (f.square:Int),.int .u32 (f.ahead:Int)] 158)).heap.size=w.heap.size+1:=by simp
 have s2:((w.alloc (.cells #[.int .u32 (f.p:Int),.int .u32 (f.root:Int),.int .u32 (f.neg:Int),.int .u32 (f.square:Int),.int .u32 (f.ahead:Int)] 158)).alloc (.cells #[.int .u32 (g.p:Int),.int .u32 (g.root:Int),.int .u32 (g.neg:Int),.int .u32 (g.square:Int),.int .u32 (g.ahead:Int)] 158)).heap.size=w.heap.size+1+1:=by simp
 rw [s1] at h2
 rw [s2] at h3
 exact ⟨(h1.ext (((Ext.refl _).alloc _).alloc _)).ext ((Ext.refl _).drew),(h2.ext ((Ext.refl _).alloc _)).ext ((Ext.refl _).drew),h3.ext ((Ext.refl _).drew),(((((Ext.refl w).alloc _).alloc _).alloc _).drew)⟩
end Go.Proofs.YtdpmbgomcjnohaaGreatDoor
/- A slice of 32-bit limbs that reads as a list of naturals; kept while what lay in memory is kept. -/
namespace Go.Proofs.YtdpmbgomcjnohaaGreatDoor
open Go.RowKit
def Un (w:World) (v:Value) (n:Nat):Prop:=U w v (limbs n)
theorem Un.below {w w':World} {v:Value} {n:Nat} (h:Un w v n) (hb:Below w.heap.size w w'):Un w' v n:=U.below h hb
end Go.Proofs.YtdpmbgomcjnohaaGreatDoor
/- walks -/
namespace Go.Proofs.YtdpmbgomcjnohaaGreatDoor
open Go.RowKit
set_option linter.unusedVariables false
set_option maxHeartbeats 400000
set_option maxRecDepth 100000
def eO (xs:List Nat):Bool:=decide (xs.length≤65536)&&(xs.isEmpty||lb xs (xs.length-1) != 0)
theorem bne_cast (a:Nat):(((a:Nat):Int) != 0)=(a != 0):=by
 rw [Bool.eq_iff_iff,bne_iff_ne,bne_iff_ne];omega
theorem Jm (w:World) (v:Value) (xs:List Nat) (h:U w v xs) :
  Calls Tryz.prog 98 #[v] w fun e w'=>e = .returned (.bool (eO xs))∧w=w':=by
 obtain ⟨A,c,rfl,⟨hc,hm⟩,hx,hr⟩:=h
 by_cases hlen:xs.length≤65536
 · rcases Nat.eq_zero_or_pos xs.length with h0 | h0
   · obtain rfl:=List.eq_nil_of_length_eq_zero h0
     go_enter Tryz.func98,Tryz.ntmps98
     go_wp2
     go_ret
     exact ⟨rfl,rfl⟩
   · obtain ⟨ad,rfl,hb,hcell⟩:=hr h0
     have hc1:=hcell (xs.length-1) (by omega)
     have hne:(((xs.length:Nat):Int)==0)=false:=by rw [beq_eq_false_iff_ne];omega
     have hres:eO xs=(lb xs (xs.length-1) != 0):=by
      unfold eO
      have:xs.isEmpty=false:=by cases xs<;>simp_all
      simp [hlen,this]
     have HR:=Lib.hid hres
     clear hres
     go_enter Tryz.func98,Tryz.ntmps98
     go_wp2
     go_ret
     exact ⟨by rw [HR.out,← bne_cast];rfl,rfl⟩
 · have hres:eO xs=false:=by unfold eO;simp [hlen]
   have HR:=Lib.hid hres
   clear hres
   go_enter Tryz.func98,Tryz.ntmps98
   go_wp2
   go_ret
   exact ⟨by rw [HR.out];rfl,rfl⟩
theorem kK (w:World) (v:Value) (xs:List Nat) (h:U w v xs) :
  Calls Tryz.prog 125 #[v] w fun e w'=>(∃ u,e = .returned u∧U w u (limbs (val xs)))∧w=w':=by
 have h':=h
 obtain ⟨A,c,rfl,⟨hc,hm⟩,hx,hr⟩:=h
 go_enter Tryz.func125,Tryz.ntmps125
 go_wp2
 go_loop [3] (fun n=>∃ k:Nat,k≤xs.length∧n = .int .i64 k∧Hid (∀ j,k≤j→j<xs.length→lb xs j=0)) (fun n=>(intOf n).toNat)
 case atStart=>exact ⟨xs.length,Nat.le_refl _,rfl,fun j h1 h2=>by omega⟩
 case round =>
  obtain ⟨k,hk,rfl,hz⟩:=hrel
  have hfin:∀ c',k≤c'→(0<k→lb xs (k-1)≠0)→U w (.slice A k c') (limbs (val xs)):=fun c' h1 h2=>by
   rw [wL xs k hx hk hz.out h2];exact h'.take hk h1
  rcases Nat.eq_zero_or_pos k with rfl | h0
  · have HF:=Lib.hid (hfin 0 (Nat.le_refl _) (fun h=>absurd h (by omega)))
    clear hfin
    go_wp2
    go_ways
    go_ret
    exact ⟨⟨_,rfl,HF.out⟩,rfl⟩
  · obtain ⟨ad,rfl,hb,hcell⟩:=hr (by omega)
    have hc1:=hcell (k-1) (by omega)
    by_cases hx0:lb xs (k-1)=0
    · have ht:((((lb xs (k-1):Nat)):Int)==0)=true:=by rw [hx0];rfl
      have HX:=Lib.hid hx0
      clear hx0
      go_wp2
      go_round
      case rel=>exact ⟨k-1,by omega,by go_num,fun j h1 h2=>by
       rcases Nat.lt_or_ge j k with h3 | h3
       · have:j=k-1:=by omega
         subst this;exact HX.out
       · exact hz.out j h3 h2⟩
      case measure=>simp [intOf];omega
    · have ht:((((lb xs (k-1):Nat)):Int)==0)=false:=by rw [beq_eq_false_iff_ne];omega
      have HF:=Lib.hid (hfin k (Nat.le_refl _) (fun _=>hx0))
      clear hfin hx0
      go_wp2
      go_ret
      exact ⟨⟨_,rfl,HF.out⟩,rfl⟩
end Go.Proofs.YtdpmbgomcjnohaaGreatDoor
/- Rows of limbs that a call has made itself. -/
namespace Go.Proofs.YtdpmbgomcjnohaaGreatDoor
open Go.RowKit
set_option linter.unusedVariables false
theorem Jq (x s:Nat):((x:Nat):Int)*2^s%4294967296=((x*2^s%4294967296:Nat):Int):=by
 rw [Int.natCast_emod,Int.natCast_mul,Int.natCast_pow];rfl
theorem Jr (x s:Nat):((x:Nat):Int)/2^s=((x/2^s:Nat):Int):=by
 rw [Int.natCast_ediv,Int.natCast_pow];rfl
theorem zH (a b:Nat) (ha:a<4294967296) (c:Int) (hc:c=(b:Nat)) (hb:b<4294967296):bits .or .u32 (a:Int) c=((a|||b:Nat):Int):=by
 subst hc;exact u32_or_nat a b ha hb
end Go.Proofs.YtdpmbgomcjnohaaGreatDoor
/- walks -/
namespace Go.Proofs.YtdpmbgomcjnohaaGreatDoor
open Go.RowKit
set_option linter.unusedVariables false
set_option maxHeartbeats 400000
set_option maxRecDepth 100000
theorem info67 : (Tryz.prog.info? 67).map (fun i=>(i.zero,i.size,i.bytes))=some (some (.int .u32 0),1,4):=by kernel_rfl
theorem Ol (w:World) (v:Value) (n:Nat) (k:Int) (hk0:0≤k) (hk1:k≤1000000000) (h:Un w v n) (hl:(limbs n).length≤1000000000) :
  Calls Tryz.prog 102 #[v,.int .i64 k] w fun e w'=>(∃ u,e = .returned u∧Un w' u (n*2^k.toNat))∧Below w.heap.size w w':=by
 obtain ⟨A,c,rfl,⟨hc,hm⟩,hx,hr⟩:=h
 obtain ⟨k,rfl⟩:=Int.eq_ofNat_of_zero_le hk0
 rcases Nat.eq_zero_or_pos n with h0 | h0
 · obtain rfl:n=0:=h0
   have hz:limbs 0=[]:=aX
   have hu:Un w (.slice none 0 0) (0*2^k):=by rw [Nat.zero_mul,Un,aX];exact U.uW _ _ _
   have HU:=Lib.hid hu
   rw [hz]
   clear hu hz hr hx hm hl hc
   go_enter Tryz.func102,Tryz.ntmps102
   go_wp2
   go_ret
   exact ⟨⟨_,rfl,HU.out⟩,Below.refl _ _⟩
 · have hlen:0<(limbs n).length:=by rw [d9 (by omega)];simp
   obtain ⟨ad,rfl,hb,hcell⟩:=hr hlen
   have hne:(((limbs n).length:Int)==0)=false:=by rw [beq_eq_false_iff_ne];omega
   obtain ⟨i0,hi,hz0,hz1,hz2⟩:=info_parts info67
   have hq:Hid (((k:Nat):Int)/32=((k/32:Nat):Int)):=by rw [Hid];omega
   generalize hxs:limbs n=xs at *
   have HX:=Lib.hid hxs
   clear hxs hr
   have hkn:decide (((k:Nat):Int)<0)=false:=by rw [decide_eq_false_iff_not];omega
   go_enter Tryz.func102,Tryz.ntmps102
   go_wp2_with (at_make;refine wpList_make_full _ rfl _ _ 22 rfl w.heap.size 67 i0 (.int .u32 0) 1 Tryz.underlying22 hi hz0 hz1 _ _ _ _ (k/32+xs.length+1) rfl rfl (by omega) (by omega) (by rw [hz2];omega) (by unfold maxLen;omega) (Nat.le_refl _) ?_;intro w1 hown hgrow)
   have ho0:=Own.zeros hown
   have hB0:Below w.heap.size w w1:=(Below.refl _ _).grown hgrow (Nat.le_refl _) (fun _ h=>by cases h)
   clear hown hgrow
   go_loopw [29] (fun m wr=>∃ (i:Nat) (o:List Nat),i≤xs.length∧m = .int .i64 i∧Hid (ru xs (k/32) (k%32) (k/32+xs.length+1) i o)∧Own wr w.heap.size (.slice (some ⟨w.heap.size,0,none⟩) o.length (k/32+xs.length+1)) o∧Below w.heap.size w wr) (fun m _=>xs.length-(intOf m).toNat)
   case atStart=>exact ⟨0,_,Nat.zero_le _,rfl,ru.start _ _ _ _,ho0,hB0⟩
   case round =>
    obtain ⟨i,o,hik,rfl,HO,hown,hB⟩:=hrel
    have Tf:=HO.out.len
    by_cases hlt:i<xs.length
    · have hc1:=(hB.cell (p:=ad.add i) (by rw [aF];exact hb)).trans (hcell i hlt)
      have hc2:=hown.cell (j:=k/32+i) (by omega)
      have hc3:=hown.cell (j:=k/32+i+1) (by omega)
      have hf2:=hown.frozen (k/32+i)
      have hf3:=hown.frozen (k/32+i+1)
      rw [Tf] at hown
      clear Tf
      have HF:Hid (bits .or .u32 (lb o (k/32+i):Int) (((lb xs i:Nat):Int)*2^(k%32)%4294967296)=((lb o (k/32+i)|||lb xs i*2^(k%32)%4294967296:Nat):Int)) :=
       zH _ _ (cK HO.out.lt _) _ (Jq _ _) (Nat.mod_lt _ (by decide))
      have HG:Hid (((lb xs i:Nat):Int)/2^(32-k%32)=((lb xs i/2^(32-k%32):Nat):Int)):=Jr _ _
      go_wp2
      go_region
      go_wp2
      rw [HF.out,HG.out]
      go_roundw
      case rel =>
       have hst:=HO.out.step (Nat.mod_lt _ (by decide)) hx hlt rfl
       refine ⟨i+1,_,by omega,by go_num,hst,?_,((hB.setCell (by simp) _).setCell (by simp) _).drew⟩
       have h1:=(Own.nO (o:=o) (by rw [HO.out.len];exact hown) (k/32+i) (lb o (k/32+i)|||lb xs i*2^(k%32)%4294967296))
       exact (Own.nO h1 (k/32+i+1) (lb xs i/2^(32-k%32))).drew
      case measure=>simp [intOf];omega
    · obtain rfl:i=xs.length:=by omega
      have hu:=hown.xX HO.out.lt (by omega)
      have hv:=HO.out.done
      rw [← HX.out,aH] at hv
      have HV:=Lib.hid hv
      rw [Tf] at hu
      clear hv Tf hlt
      go_wp2_with fail
      refine (kK _ _ _ hu).mono ?_
      rintro e w2 ⟨⟨u,rfl,hu2⟩,rfl⟩
      have hu3:Un wr u (n*2^((k:Int)).toNat):=by rw [Un,Int.toNat_natCast,← HV.out];exact hu2
      clear hu2
      go_wp2
      go_ret
      exact ⟨⟨_,rfl,hu3⟩,hB⟩
end Go.Proofs.YtdpmbgomcjnohaaGreatDoor
/- walks -/
namespace Go.Proofs.YtdpmbgomcjnohaaGreatDoor
open Go.RowKit
set_option linter.unusedVariables false
set_option maxHeartbeats 400000
set_option maxRecDepth 100000
theorem Ll (w:World) (v:Value) (n:Nat) (h:Un w v n) (hl:(limbs n).length≤1000000000) :
  Calls Tryz.prog 174 #[v] w fun e w'=>e = .returned (.int .i64 (fK n:Nat))∧w=w':=by
 obtain ⟨A,c,rfl,⟨hc,hm⟩,hx,hr⟩:=h
 by_cases h0:n=0
 · subst h0
   have hz:limbs 0=[]:=aX
   rw [hz]
   clear hz hr hx hm hl hc
   have HF:Hid (fK 0=0):=rfl
   go_enter Tryz.func174,Tryz.ntmps174
   go_wp2
   go_ret
   exact ⟨by rw [HF.out];rfl,rfl⟩
 · have HF:=Lib.hid (Dj n h0)
   have hlen:0<(limbs n).length:=by rw [d9 h0];simp
   obtain ⟨ad,rfl,hb,hcell⟩:=hr hlen
   have hc1:=hcell ((limbs n).length-1) (by omega)
   have hne:(((limbs n).length:Int)==0)=false:=by rw [beq_eq_false_iff_ne];omega
   have hL:=cK hx ((limbs n).length-1)
   have hB:=fB (k:=32) hL
   have HL:=Lib.hid hL
   clear hL
   go_enter Tryz.func174,Tryz.ntmps174
   go_wp2_with (go_at_call 168;refine (IE _ _ HL.out).mono ?_;rintro e w' ⟨rfl,rfl⟩)
   go_ret
   exact ⟨by rw [HF.out];exact uo (by omega),rfl⟩
theorem Oj (w:World) (n:Nat) (hn:n<18446744073709551616) :
  Calls Tryz.prog 141 #[.int .u64 n] w fun e w'=>(∃ u,e = .returned u∧Un w' u n)∧Below w.heap.size w w':=by
 have HN:=Lib.hid hn
 go_enter Tryz.func141,Tryz.ntmps141
 go_wp2_with fail
 have hn':=HN.out
 have hv:val [n%4294967296,n/4294967296]=n:=by simp only [val];omega
 have hu:U (w.alloc (Obj.cells #[Value.int IntKind.u32 ((n:Int)%4294967296),Value.int IntKind.u32 ((n:Int)/4294967296)] 67)) (.slice (some ⟨w.heap.size,0,none⟩) 2 2) [n%4294967296,n/4294967296]:=by
  refine ⟨_,2,rfl,⟨Nat.le_refl _,by simp⟩,by intro x hx;simp at hx;omega,fun _=>⟨_,rfl,by simp,fun j hj=>?_⟩⟩
  have:j=0∨j=1:=by simp at hj;omega
  rcases this with rfl | rfl
  · simp [lb,Addr.add]
  · simp [lb,Addr.add]
 clear hn' hn
 refine (kK _ _ _ hu).mono ?_
 rintro e w2 ⟨⟨u,rfl,hu2⟩,rfl⟩
 rw [hv] at hu2
 clear hv
 go_wp2
 go_ret
 exact ⟨⟨_,rfl,hu2⟩,(Below.refl _ _).alloc (Nat.le_refl _) _⟩
end Go.Proofs.YtdpmbgomcjnohaaGreatDoor
/- walks -/
namespace Go.Proofs.YtdpmbgomcjnohaaGreatDoor
open Go.RowKit
set_option linter.unusedVariables false
set_option maxHeartbeats 400000
set_option maxRecDepth 100000
theorem Om (w:World) (v:Value) (n:Nat) (k:Int) (hk0:0≤k) (hk1:k≤1000000000) (h:Un w v n) (hl:(limbs n).length≤1000000000) :
  Calls Tryz.prog 104 #[v,.int .i64 k] w fun e w'=>(∃ u,e = .returned u∧Un w' u (n/2^k.toNat))∧Below w.heap.size w w':=by
 obtain ⟨A,c,rfl,⟨hc,hm⟩,hx,hr⟩:=h
 obtain ⟨k,rfl⟩:=Int.eq_ofNat_of_zero_le hk0
 have hkn:decide (((k:Nat):Int)<0)=false:=by rw [decide_eq_false_iff_not];omega
 by_cases h0:k/32<(limbs n).length
 · obtain ⟨ad,rfl,hb,hcell⟩:=hr (by omega)
   obtain ⟨i0,hi,hz0,hz1,hz2⟩:=info_parts info67
   generalize hxs:limbs n=xs at *
   have HX:=Lib.hid hxs
   have hcap:decide (c=k/32)=false:=by rw [decide_eq_false_iff_not];omega
   clear hxs hr
   go_enter Tryz.func104,Tryz.ntmps104
   go_wp2_with (at_make;refine wpList_make_full _ rfl _ _ 22 rfl w.heap.size 67 i0 (.int .u32 0) 1 Tryz.underlying22 hi hz0 hz1 _ _ _ _ (xs.length-k/32) rfl rfl (by omega) (by omega) (by rw [hz2];omega) (by unfold maxLen;omega) (Nat.le_refl _) ?_;intro w1 hown hgrow)
   have ho0:=Own.zeros hown
   have hB0:Below w.heap.size w w1:=(Below.refl _ _).grown hgrow (Nat.le_refl _) (fun _ h=>by cases h)
   have hys:Hid ((xs.drop (k/32)).length=xs.length-k/32):=by rw [Hid,List.length_drop]
   have hyl:=Lib.hid (Vs (k/32) hx)
   clear hown hgrow
   go_loopw [29] (fun m wr=>∃ (i:Nat) (o:List Nat),i≤xs.length-k/32∧m = .int .i64 i∧Hid (mU (xs.drop (k/32)) (k%32) (xs.length-k/32) i o)∧Own wr w.heap.size (.slice (some ⟨w.heap.size,0,none⟩) o.length (xs.length-k/32)) o∧Below w.heap.size w wr) (fun m _=>xs.length-k/32-(intOf m).toNat)
   case atStart=>exact ⟨0,_,Nat.zero_le _,rfl,mU.start _ _ _,ho0,hB0⟩
   case round =>
    obtain ⟨i,o,hik,rfl,HO,hown,hB⟩:=hrel
    have Tf:=HO.out.len
    by_cases hlt:i<xs.length-k/32
    · have hc1:wr.cell? ((ad.add (k/32)).add i)=some (.int .u32 ((lb (xs.drop (k/32)) i:Nat):Int)):=by
       rw [addr_add_add,Ai]
       exact (hB.cell (p:=ad.add (k/32+i)) (by rw [aF];exact hb)).trans (hcell _ (by omega))
      have hc2:=hown.cell (j:=i) (by omega)
      have hf2:=hown.frozen i
      have hown':=hown
      rw [Tf] at hown
      have HG:Hid (((lb (xs.drop (k/32)) i:Nat):Int)/2^(k%32)=((lb (xs.drop (k/32)) i/2^(k%32):Nat):Int)):=Jr _ _
      by_cases hi0:i=0
      · subst hi0
        rw [iF] at hc1
        clear Tf
        go_wp2
        rw [HG.out]
        go_roundw
        case rel =>
         have hst:=HO.out.step0 (Nat.mod_lt _ (by decide)) hyl.out (by rw [hys.out];omega) hys.out.symm
         exact ⟨1,_,by omega,by go_num,hst,Own.nO hown' 0 _,hB.setCell (by simp) _⟩
        case measure=>simp [intOf];omega
      · have hc3:=hown'.cell (j:=i-1) (by omega)
        have hf3:=hown'.frozen (i-1)
        have HF:Hid (bits .or .u32 (lb o (i-1):Int) (((lb (xs.drop (k/32)) i:Nat):Int)*2^(32-k%32)%4294967296)=((lb o (i-1)|||lb (xs.drop (k/32)) i*2^(32-k%32)%4294967296:Nat):Int)) :=
         zH _ _ (cK HO.out.lt _) _ (Jq _ _) (Nat.mod_lt _ (by decide))
        clear Tf
        go_wp2
        go_region
        go_wp2
        rw [HF.out,HG.out]
        go_roundw
        case rel =>
         have hst:=HO.out.step (by omega) (Nat.mod_lt _ (by decide)) hyl.out (by rw [hys.out];omega) hys.out.symm
         exact ⟨i+1,_,by omega,by go_num,hst,(Own.nO (Own.nO hown' i _) (i-1) _).drew,((hB.setCell (by simp) _).setCell (by simp) _).drew⟩
        case measure=>simp [intOf];omega
    · have hu:=hown.xX HO.out.lt (by omega)
      have hv:=HO.out.done hx (by rw [hys.out];omega)
      rw [← HX.out,aH] at hv
      have HV:=Lib.hid hv
      rw [Tf] at hu
      clear hv Tf
      go_wp2_with fail
      refine (kK _ _ _ hu).mono ?_
      rintro e w2 ⟨⟨u,rfl,hu2⟩,rfl⟩
      have hu3:Un wr u (n/2^((k:Int)).toNat):=by rw [Un,Int.toNat_natCast,← HV.out];exact hu2
      clear hu2
      go_wp2
      go_ret
      exact ⟨⟨_,rfl,hu3⟩,hB⟩
 · have hu:Un w (.slice none 0 0) (n/2^((k:Int)).toNat):=by
    have:=jw n
    have h2:4294967296^(limbs n).length≤4294967296^(k/32):=Nat.pow_le_pow_right (by decide) (by omega)
    have h3:2^(32*(k/32))≤2^k:=Nat.pow_le_pow_right (by decide) (by omega)
    rw [mE (k/32)] at h2
    rw [Int.toNat_natCast,Nat.div_eq_of_lt (by omega),Un,aX]
    exact U.uW _ _ _
   have HU:=Lib.hid hu
   clear hu
   go_enter Tryz.func104,Tryz.ntmps104
   go_wp2
   go_ret
   exact ⟨⟨_,rfl,HU.out⟩,Below.refl _ _⟩
end Go.Proofs.YtdpmbgomcjnohaaGreatDoor
/- slices.Backward over limbs, and nat.Cmp. -/
namespace Go.Proofs.YtdpmbgomcjnohaaGreatDoor
open Go.RowKit Go.Shelf
set_option linter.unusedVariables false
attribute [local go_sem] Oper.semAt_some
abbrev Ix (L:Nat):={ k:Nat // k<L }
abbrev Yr (xs:List Nat) (p:Ix xs.length):Array Value:=#[.int .i64 (p.1:Int),.int .u32 ((lb xs p.1:Nat):Int)]
set_option maxRecDepth 100000 in
set_option maxHeartbeats 2000000 in
theorem SH (l Bs:Nat) (ad:Addr) (c:Nat) (xs:List Nat) (hm:xs.length≤9223372036854775807) (n₀:Nat) (hb:ad.block<n₀) (J Jx:List (Ix xs.length)→World→Prop)
  (hY:∀ pre x W,J pre W→pre.length<xs.length→YieldAt Fence.wide 2 Tryz.prog l (Yr xs x) W fun e W' =>
   (e = .returned (.bool true)∧J (pre++[x]) W'∧Below n₀ W W')∨(e = .returned (.bool false)∧Jx (pre++[x]) W'))
  (W:World) (hBn:Bs<n₀) (hBs:W.cell? ⟨Bs,0,none⟩=some (.slice (some ad) xs.length c)) (hc:∀ j,j<xs.length→W.cell? (ad.add j)=some (.int .u32 ((lb xs j:Nat):Int))) (h0:J [] W) :
  CallsIn Fence.wide 3 Tryz.prog 149 #[.func (.yield l) #[] #[],.pointer (some ⟨Bs,0,none⟩)] W fun e W'=>(∃ v,e = .returned v) ∧
   ((∃ ys,ys.map (·.1)=qx xs.length xs.length∧J ys W')∨(∃ pre,(∃ k,k≤xs.length∧pre.map (·.1)=qx xs.length k)∧Jx pre W')):=by
 refine callsIn_of_wp Tryz.func149 rfl trivial ?_ rfl
 simp only [Tryz.ntmps149,List.size_toArray,List.length_cons,List.length_nil,Nat.reduceAdd,Nat.reduceSub,Array.replicate_succ,Array.replicate_zero,List.push_toArray,List.append_toArray,List.nil_append,List.cons_append]
 gi_wp2
 gi_loopw [3] (fun i wr=>∃ (k:Nat) (pre:List (Ix xs.length)),k≤xs.length∧i = .int .i64 ((xs.length:Int)-1-k)∧Hid (pre.map (·.1)=qx xs.length k)∧J pre wr∧Below n₀ W wr)
  (fun i _=>(intOf i+1).toNat)
 case atStart=>exact ⟨0,[],Nat.zero_le _,by simp,rfl,h0,Below.refl _ _⟩
 case round =>
  obtain ⟨k,pre,hk,rfl,hp,hJs,hnx⟩:=hrel
  by_cases hlt:k<xs.length
  · have hcx:=(hnx.cell (p:=ad.add (xs.length-1-k)) (by rw [aF];exact hb)).trans (hc (xs.length-1-k) (by omega))
    have hcb:=(hnx.cell (p:=⟨Bs,0,none⟩) hBn).trans hBs
    obtain ⟨fn,tmps,assign,body,hy,hR⟩:=hY pre ⟨xs.length-1-k,by omega⟩ wr hJs (by have:=congrArg List.length hp.out;simp [qx] at this;omega)
    dsimp only [Yr] at hy
    rw [show ((xs.length-1-k:Nat):Int)=(xs.length:Int)-1-k by omega] at hy
    gi_wp2
    refine hR.mono ?_
    rintro e W3 (⟨rfl,hJ3,hk3⟩ | ⟨rfl,hJx3⟩)
    · gi_wp2
      go_roundw
      case rel=>exact ⟨k+1,_,by omega,by congr 1;push_cast;omega,by rw [Hid,List.map_append,hp.out,vZ];rfl,hJ3,hnx.trans hk3⟩
      case measure=>simp [intOf];omega
    · gi_wp2
      refine bodyPost_ret (results_none rfl _ _ _) rfl ?_
      exact ⟨⟨_,rfl⟩,.inr ⟨_,⟨k+1,by omega,by rw [List.map_append,hp.out,vZ];rfl⟩,hJx3⟩⟩
  · obtain rfl:k=xs.length:=by omega
    gi_wp2
    go_end0
    exact ⟨⟨_,rfl⟩,.inl ⟨_,hp.out,hJs⟩⟩
set_option maxRecDepth 100000 in
set_option maxHeartbeats 1000000 in
theorem Gi (l Bs:Nat) (A:Option Addr) (c:Nat) {α:Type} (J:List α→World→Prop) (W:World) (hBs:W.cell? ⟨Bs,0,none⟩=some (.slice A 0 c)) (h0:J [] W) :
  CallsIn Fence.wide 3 Tryz.prog 149 #[.func (.yield l) #[] #[],.pointer (some ⟨Bs,0,none⟩)] W fun e W'=>(∃ v,e = .returned v)∧J [] W':=by
 refine callsIn_of_wp Tryz.func149 rfl trivial ?_ rfl
 simp only [Tryz.ntmps149,List.size_toArray,List.length_cons,List.length_nil,Nat.reduceAdd,Nat.reduceSub,Array.replicate_succ,Array.replicate_zero,List.push_toArray,List.append_toArray,List.nil_append,List.cons_append]
 gi_wp2
 gi_loopw [3] (fun i wr=>i = .int .i64 (-1)∧J [] wr) (fun _ _=>0)
 case atStart=>exact ⟨rfl,h0⟩
 case round =>
  obtain ⟨rfl,hJs⟩:=hrel
  gi_wp2
  go_end0
  exact ⟨⟨_,rfl⟩,hJs⟩
set_option maxHeartbeats 1000000 in
theorem Vq (a:Option Addr) (len cap:Nat) (w:World) :
  CallsIn Fence.wide 3 Tryz.prog 135 #[.slice a len cap] w fun e w'=>e = .returned (.func (.func 149) #[] #[.pointer (some ⟨w.heap.size,0,none⟩)])∧w'=w.alloc (.cells #[.slice a len cap] 22):=by
 refine callsIn_of_wp Tryz.func135 rfl trivial ?_ rfl
 simp only [Tryz.ntmps135,List.size_toArray,List.length_cons,List.length_nil,Nat.reduceAdd,Nat.reduceSub,Array.replicate_succ,Array.replicate_zero,List.push_toArray,List.append_toArray,List.nil_append,List.cons_append]
 gi_wp2
 go_ret
 exact ⟨rfl,rfl⟩
theorem Lm (Bs:Nat) (v:Value) (xs:List Nat) (w:World) (hBs:Bs<w.heap.size) (hc:w.cell? ⟨Bs,0,none⟩=some v) (hU:U w v xs) :
  SeqStopsK Fence.wide 3 Tryz.prog 149 #[.pointer (some ⟨Bs,0,none⟩)] (Yr xs) (Below w.heap.size) (fun ys=>ys.map (·.1)=qx xs.length xs.length)
   (fun pre=>∃ k,k≤xs.length∧pre.map (·.1)=qx xs.length k) xs.length w:=fun l J Jx W hW _ _ hY h0=>by
 have hc':=(hW.cell (p:=⟨Bs,0,none⟩) hBs).trans hc
 obtain ⟨A,c,rfl,⟨h1,h2⟩,hx,hr⟩:=hU
 rcases Nat.eq_zero_or_pos xs.length with h3 | h3
 · rw [h3] at hc'
   refine (Gi l Bs A c J W hc' h0).mono fun e W' ⟨he,hj⟩=>⟨he,.inl ⟨[],by rw [h3];rfl,hj⟩⟩
 · obtain ⟨ad,rfl,hb,hcell⟩:=hr h3
   exact SH l Bs ad c xs h2 w.heap.size hb J Jx hY W hBs hc' (fun j hj=>(hW.cell (p:=ad.add j) (by rw [aF];exact hb)).trans (hcell j hj)) h0
end Go.Proofs.YtdpmbgomcjnohaaGreatDoor
/- walks -/
namespace Go.Proofs.YtdpmbgomcjnohaaGreatDoor
open Go.RowKit
set_option linter.unusedVariables false
set_option maxHeartbeats 400000
set_option maxRecDepth 100000
theorem qU (w:World) (x y:Int) :
  Calls Tryz.prog 67 #[.int .i64 x,.int .i64 y] w fun e w'=>e = .returned (.int .i64 (bZ x y))∧w=w':=by
 by_cases h1:x<y
 · have HF:Hid (bZ x y = -1):=if_pos h1
   go_enter Tryz.func67,Tryz.ntmps67
   go_wp2
   go_ret
   exact ⟨by rw [HF.out];rfl,rfl⟩
 · by_cases h2:y<x
   · have HF:Hid (bZ x y=1):=by rw [Hid,bZ,if_neg h1,if_pos h2]
     clear h1
     go_enter Tryz.func67,Tryz.ntmps67
     go_wp2
     go_ret
     exact ⟨by rw [HF.out];rfl,rfl⟩
   · have HF:Hid (bZ x y=0):=by rw [Hid,bZ,if_neg h1,if_neg h2]
     go_enter Tryz.func67,Tryz.ntmps67
     go_wp2
     go_ret
     exact ⟨by rw [HF.out];rfl,rfl⟩
theorem Gj (w:World) (x y:Int) :
  Calls Tryz.prog 136 #[.int .u32 x,.int .u32 y] w fun e w'=>e = .returned (.int .i64 (bZ x y))∧w=w':=by
 by_cases h1:x<y
 · have HF:Hid (bZ x y = -1):=if_pos h1
   go_enter Tryz.func136,Tryz.ntmps136
   go_wp2
   go_ret
   exact ⟨by rw [HF.out];rfl,rfl⟩
 · by_cases h2:y<x
   · have HF:Hid (bZ x y=1):=by rw [Hid,bZ,if_neg h1,if_pos h2]
     clear h1
     go_enter Tryz.func136,Tryz.ntmps136
     go_wp2
     go_ret
     exact ⟨by rw [HF.out];rfl,rfl⟩
   · have HF:Hid (bZ x y=0):=by rw [Hid,bZ,if_neg h1,if_neg h2]
     go_enter Tryz.func136,Tryz.ntmps136
     go_wp2
     go_ret
     exact ⟨by rw [HF.out];rfl,rfl⟩
end Go.Proofs.YtdpmbgomcjnohaaGreatDoor
