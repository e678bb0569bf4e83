/- What every statement's proof ends with: the table read; the arguments opened, and read again behind the call. -/
import Derived.Test.YtnilonnkcbkdmaaGreatDoorBad
import Derived.Test.YtnilonnkcbkdmaaGreatDoorBac
import Derived.Test.YtnilonnkcbkdmaaGreatDoorBaj
import Derived.Test.YtnilonnkcbkdmaaGreatDoorBai
import Derived.Test.YtnilonnkcbkdmaaGreatDoorRows
import Derived.Test.YtnilonnkcbkdmaaGreatDoorCards
import Derived.Test.YtnilonnkcbkdmaaGreatDoorTie
import Derived.SevenTiedAt
import Derived.LaidMore
import Derived.Stop.Joined
import Derived.JoinedOf
import Derived.JoinedAt
import Derived.Lib.SmallJoins
import Derived.Laws.BitsLemmas
import Derived.Deep.RegionHeld3
import Derived.Maps.AppendAt
import Derived.Deep.Cut
import Derived.Deep.CutRange
import Derived.Shelf.Bits.Mul64
import Derived.BigRegion

namespace Go.Proofs.YtnilonnkcbkdmaaGreatDoor
open Go.ChangeShapes Go.WideShapes Go.ChangeAt Go.RowKit
set_option linter.unusedVariables false
set_option maxRecDepth 100000
theorem own:ownKnob Tryz.prog.godebug=none:=by kernel_rfl
end Go.Proofs.YtnilonnkcbkdmaaGreatDoor
/- The document's own words that every statement of this stage takes: primes, rows of numbers, lengths. -/
namespace Go.Proofs.YtnilonnkcbkdmaaGreatDoor
open Go.ChangeShapes Go.WideShapes Go.ChangeAt Go.RowKit
set_option linter.unusedVariables false
set_option maxHeartbeats 400000
def ajm (p k:Nat) (l:List Nat):List Nat:=(List.range (2^k)).map fun t=>lb l t%p
theorem af0 (p k:Nat) (l:List Nat):(ajm p k l).length=2^k:=by simp [ajm]
theorem ajn (p k:Nat) (l:List Nat) (j:Nat) (h:j<2^k):lb (ajm p k l) j=lb l j%p:=Uw _ _ _ h
structure af1 (p n:Nat) (l:List Nat) (t:Nat) (o:List Nat):Prop where
 len:o.length=n
 lt:∀ x∈o,x<p
 at_:∀ j,lb o j=if j<t then lb l j%p else 0
theorem af1.step {p n:Nat} {l:List Nat} {t:Nat} {o:List Nat} (H:af1 p n l t o) (hp:0<p) (ht:t<n):af1 p n l (t+1) (o.set t (lb l t%p)):=by
 refine ⟨by simp [H.len],gm H.lt (Nat.mod_lt _ hp),fun j=>?_⟩
 rw [lV _ _ _ _ (by rw [H.len];exact ht),H.at_ j]
 by_cases e:t=j
 · subst e;rw [if_pos rfl,if_pos (by omega)]
 · rw [if_neg e]
   by_cases c:j<t
   · rw [if_pos c,if_pos (by omega)]
   · rw [if_neg c,if_neg (by omega)]
theorem af1.done {p k:Nat} {l:List Nat} {t:Nat} {o:List Nat} (H:af1 p (2^k) l t o) (ht:t=2^k∨l.length≤t):o=ajm p k l:=by
 refine rP (by rw [H.len,af0]) fun j hj=>?_
 rw [H.len] at hj
 rw [ajn _ _ _ _ hj,H.at_ j]
 by_cases c:j<t
 · rw [if_pos c]
 · rw [if_neg c,kE (o:=l) (by omega),Nat.zero_mod]
end Go.Proofs.YtnilonnkcbkdmaaGreatDoor
/- Lengths of powers of 2; the row of a question; a question among the arguments. -/
namespace Go.Proofs.YtnilonnkcbkdmaaGreatDoor
open Go.ChangeShapes Go.WideShapes Go.ChangeAt Go.RowKit
set_option linter.unusedVariables false
set_option maxHeartbeats 400000
def ri (I:Int):Nat:=(I%256).toNat%3
end Go.Proofs.YtnilonnkcbkdmaaGreatDoor
/- What the transform does, number by number. -/
namespace Go.Proofs.YtnilonnkcbkdmaaGreatDoor
open Go.RowKit
set_option linter.unusedVariables false
def ts (i k:Nat) (b:Bool):Nat:=if b then sh (fd i) (2^k) else 1
end Go.Proofs.YtnilonnkcbkdmaaGreatDoor
/- A question in its box; slices opened. -/
namespace Go.Proofs.YtnilonnkcbkdmaaGreatDoor
open Go.RowKit
set_option linter.unusedVariables false
set_option maxHeartbeats 400000
def Ax (w:World) (B:Nat) (I K:Int) (sl:Value) (bk:Bool):Prop:=B<w.heap.size∧w.cell? ⟨B,0,none⟩=some (.int .i64 I)∧w.cell? ⟨B,1,none⟩=some (.int .i64 K)∧w.cell? ⟨B,2,none⟩=some sl∧w.cell? ⟨B,3,none⟩=some (.bool bk)
theorem Ax.ext {w w':World} {B:Nat} {I K:Int} {sl:Value} {bk:Bool} (h:Ax w B I K sl bk) (hB:Ext w w'):Ax w' B I K sl bk:=by
 obtain ⟨h0,h1,h2,h3,h4⟩:=h
 have hs:=hB.size
 have hc:=fun o=>hB.cell (p:=⟨B,o,none⟩) h0
 exact ⟨by omega,by rw [hc];exact h1,by rw [hc];exact h2,by rw [hc];exact h3,by rw [hc];exact h4⟩
theorem U.opened {w:World} {v:Value} {xs:List Nat} (h:U w v xs) {n:Nat} (hn:xs.length=n) (h0:0<n):∃ ad c,v = .slice (some ad) n c∧n≤c∧ad.block<w.heap.size∧∀ j,j<n→w.cell? (ad.add j)=some (.int .u32 (lb xs j:Nat)):=by
 obtain ⟨A,c,rfl,⟨hc,_⟩,_,hr⟩:=h
 subst hn
 obtain ⟨ad,rfl,hb,hcell⟩:=hr h0
 exact ⟨ad,c,rfl,hc,hb,hcell⟩
end Go.Proofs.YtnilonnkcbkdmaaGreatDoor
/- A row that grows while others lie by. -/
namespace Go.Proofs.YtnilonnkcbkdmaaGreatDoor
open Go.RowKit
set_option linter.unusedVariables false
set_option maxHeartbeats 400000
structure Apart (B:Nat) (w0 w:World) (v:Value) (o:List Nat):Prop where
 own:Own w B v o
 but:But B w0 w
 at_:∀ g,v.ownBlock=some g→g=B∨w0.heap.size≤g
theorem Apart.drew {B:Nat} {w0 w:World} {v:Value} {o:List Nat} (h:Apart B w0 w v o):Apart B w0 w.drew v o:=⟨h.own.drew,h.but.drew,h.at_⟩
theorem Apart.cell {B:Nat} {w0 w:World} {v:Value} {o:List Nat} (h:Apart B w0 w v o) {p:Addr} (hp:p.block<w0.heap.size) (hne:p.block≠B):w.cell? p=w0.cell? p:=h.but.cell hp hne
end Go.Proofs.YtnilonnkcbkdmaaGreatDoor
/- A row laid in, modulo a prime, and down. -/
namespace Go.Proofs.YtnilonnkcbkdmaaGreatDoor
open Go.RowKit
set_option linter.unusedVariables false
set_option maxHeartbeats 400000
def ml (f:Fd) (n:Nat) (l:List Nat):List Nat:=(List.range n).map fun j=>zo f (lb l j)
theorem apk (f:Fd) (n:Nat) (l:List Nat):(ml f n l).length=n:=by simp [ml]
theorem avF (f:Fd) (n:Nat) (l:List Nat) (j:Nat) (h:j<n):lb (ml f n l) j=zo f (lb l j):=Uw _ _ _ h
structure MlI (f:Fd) (n:Nat) (l:List Nat) (j:Nat) (o:List Nat):Prop where
 len:o.length=n
 lt:∀ x∈o,x<f.p
 at_:∀ q,lb o q=if q<j then zo f (lb l q) else 0
theorem MlI.step {f:Fd} (hf:Good f) {n:Nat} {l:List Nat} {j:Nat} {o:List Nat} (H:MlI f n l j o) (hj:j<n):MlI f n l (j+1) (o.set j (zo f (lb l j))):=by
 refine ⟨by simp [H.len],gm H.lt (Vp f hf _),fun q=>?_⟩
 rw [lV _ _ _ _ (by rw [H.len];exact hj)]
 by_cases e:j=q
 · subst e;rw [if_pos rfl,if_pos (by omega)]
 · rw [if_neg e,H.at_ q]
   by_cases c:q<j
   · rw [if_pos c,if_pos (by omega)]
   · rw [if_neg c,if_neg (by omega)]
theorem ajo (l:List Nat) (j:Nat) (h:l.length≤j):lb l j=0:=by unfold lb;rw [List.getElem?_eq_none h];rfl
theorem aag (f:Fd):zo f 0=0:=by unfold zo;rw [Nat.zero_mul,Nat.zero_mod]
theorem MlI.done {f:Fd} {n:Nat} {l:List Nat} {o:List Nat} (H:MlI f n l l.length o):o=ml f n l:=by
 refine rP (by rw [H.len,apk]) fun q hq=>?_
 rw [avF f n l q (by rw [← H.len];exact hq),H.at_ q]
 by_cases c:q<l.length
 · rw [if_pos c]
 · rw [if_neg c,ajo l q (by omega),aag]
end Go.Proofs.YtnilonnkcbkdmaaGreatDoor
/- Sums of products modulo a prime, by transforms. -/
namespace Go.Proofs.YtnilonnkcbkdmaaGreatDoor
open Go.RowKit
set_option linter.unusedVariables false
set_option maxHeartbeats 400000
theorem drawn {x y:World} (hB:Ext x.drew y):Ext x y:=((Ext.refl x).drew).below hB
structure Upd (n p:Nat) (G:Nat→Nat) (m:Nat) (l o:List Nat):Prop where
 len:o.length=n
 lt:∀ x∈o,x<p
 at_:∀ i,lb o i=if i<m then G i else lb l i
theorem Upd.step {n p:Nat} {G:Nat→Nat} {m:Nat} {l o:List Nat} (H:Upd n p G m l o) (hm:m<n) (hG:G m<p):Upd n p G (m+1) l (o.set m (G m)):=by
 refine ⟨by simp [H.len],gm H.lt hG,fun i=>?_⟩
 rw [lV _ _ _ _ (by rw [H.len];exact hm)]
 by_cases e:m=i
 · subst e;rw [if_pos rfl,if_pos (by omega)]
 · rw [if_neg e,H.at_ i]
   by_cases c:i<m
   · rw [if_pos c,if_pos (by omega)]
   · rw [if_neg c,if_neg (by omega)]
end Go.Proofs.YtnilonnkcbkdmaaGreatDoor
/- join: the number that has three rests, in three limbs. -/
namespace Go.Proofs.YtnilonnkcbkdmaaGreatDoor
open Go.RowKit
set_option linter.unusedVariables false
set_option maxHeartbeats 400000
set_option maxHeartbeats 1000000 in
theorem xE (x y:Nat) (hx:x<18446744073709551616) (hy:y<18446744073709551616) (w:World) :
  Calls Tryz.prog 165 #[.int .u64 x,.int .u64 y] w fun e w'=>e = .returned (.tuple #[.int .u64 ((x*y/18446744073709551616:Nat):Int),.int .u64 ((x*y%18446744073709551616:Nat):Int)])∧w'=w:=by
 obtain ⟨bd,bt,bw,hhi⟩:=Lib.mul64_hi x y hx hy
 have ba:=Lib.half_mul_le (a:=x/4294967296) (b:=y/4294967296) (by omega) (by omega)
 have bb:=Lib.half_mul_le (a:=x/4294967296) (b:=y%4294967296) (by omega) (by omega)
 have bc:=Lib.half_mul_le (a:=x%4294967296) (b:=y/4294967296) (by omega) (by omega)
 have ba':x/4294967296*(y/4294967296)<18446744073709551616:=by omega
 have bb':x/4294967296*(y%4294967296)<18446744073709551616:=by omega
 have bc':x%4294967296*(y/4294967296)<18446744073709551616:=by omega
 have bh1:x/4294967296*(y/4294967296)+(x/4294967296*(y%4294967296)+x%4294967296*(y%4294967296)/4294967296)/4294967296<18446744073709551616:=by omega
 have bh:x/4294967296*(y/4294967296)+(x/4294967296*(y%4294967296)+x%4294967296*(y%4294967296)/4294967296)/4294967296+((x/4294967296*(y%4294967296)+x%4294967296*(y%4294967296)/4294967296)%4294967296+x%4294967296*(y/4294967296))/4294967296<18446744073709551616:=by omega
 go_enter Tryz.func165,Tryz.ntmps165
 go_wp2
 simp only [Mul64.maskN x hx,Mul64.maskN y hy,Mul64.divN,Mul64.mulN,Mul64.addN,Mul64.wrapN _ bd,Mul64.wrapN _ bb',Mul64.wrapN _ bt,Mul64.maskN _ bt,Mul64.wrapN _ bc',Mul64.wrapN _ bw,Mul64.wrapN _ ba',Mul64.wrapN _ bh1,Mul64.wrapN _ bh,Mul64.wrapM (x*y)]
 rw [hhi]
 go_ret2
 exact ⟨rfl,rfl⟩
theorem three (w:World) (B:Nat) (hB:w.heap.size=B) (f g h:Fd) :
  Bx ((((w.alloc (.cells #[.int .u32 (f.p:Int),.int .u32 (f.root:Int),.int .u32 (f.neg:Int),.int .u32 (f.square:Int),.int .u32 (f.ahead:Int)] 159)).alloc (.cells #[.int .u32 (g.p:Int),.int .u32 (g.root:Int),.int .u32 (g.neg:Int),.int .u32 (g.square:Int),.int .u32 (g.ahead:Int)] 159)).alloc (.cells #[.int .u32 (h.p:Int),.int .u32 (h.root:Int),.int .u32 (h.neg:Int),.int .u32 (h.square:Int),.int .u32 (h.ahead:Int)] 159)).drew) B f∧Bx ((((w.alloc (.cells #[.int .u32 (f.p:Int),.int .u32 (f.root:Int),.int .u32 (f.neg:Int),.int .u32 (f.square:Int),.int .u32 (f.ahead:Int)] 159)).alloc (.cells #[.int .u32 (g.p:Int),.int .u32 (g.root:Int),.int .u32 (g.neg:Int),.int .u32 (g.square:Int),.int .u32 (g.ahead:Int)] 159)).alloc (.cells #[.int .u32 (h.p:Int),.int .u32 (h.root:Int),.int .u32 (h.neg:Int),.int .u32 (h.square:Int),.int .u32 (h.ahead:Int)] 159)).drew) (B+1) g ∧
  Bx ((((w.alloc (.cells #[.int .u32 (f.p:Int),.int .u32 (f.root:Int),.int .u32 (f.neg:Int),.int .u32 (f.square:Int),.int .u32 (f.ahead:Int)] 159)).alloc (.cells #[.int .u32 (g.p:Int),.int .u32 (g.root:Int),.int .u32 (g.neg:Int),.int .u32 (g.square:Int),.int .u32 (g.ahead:Int)] 159)).alloc (.cells #[.int .u32 (h.p:Int),.int .u32 (h.root:Int),.int .u32 (h.neg:Int),.int .u32 (h.square:Int),.int .u32 (h.ahead:Int)] 159)).drew) (B+1+1) h∧Ext w ((((w.alloc (.cells #[.int .u32 (f.p:Int),.int .u32 (f.root:Int),.int .u32 (f.neg:Int),.int .u32 (f.square:Int),.int .u32 (f.ahead:Int)] 159)).alloc (.cells #[.int .u32 (g.p:Int),.int .u32 (g.root:Int),.int .u32 (g.neg:Int),.int .u32 (g.square:Int),.int .u32 (g.ahead:Int)] 159)).alloc (.cells #[.int .u32 (h.p:Int),.int .u32 (h.root:Int),.int .u32 (h.neg:Int),.int .u32 (h.square:Int),.int .u32 (h.ahead:Int)] 159)).drew):=by
 subst hB
 have h1:=Bx.new w f
 have h2:=Bx.new (w.alloc (.cells #[.int .u32 (f.p:Int),.int .u32 (f.root:Int),.int .u32 (f.neg:Int),.int .u32 (f.square:Int),.int .u32 (f.ahead:Int)] 159)) g
 have h3:=Bx.new ((w.alloc (.cells #[.int .u32 (f.p:Int),.int .u32 (f.root:Int),.int .u32 (f.neg:Int),.int .u32 (f.square:Int),.int .u32 (f.ahead:Int)] 159)).alloc (.cells #[.int .u32 (g.p:Int),.int .u32 (g.root:Int),.int .u32 (g.neg:Int),.int .u32 (g.square:Int),.int .u32 (g.ahead:Int)] 159)) h
 have s1:(w.alloc (.cells #[.int .u32 (f.p:Int),.int .u32 (f.root:Int),.int .u32 (f.neg:Int),.int .u32 (f.square:Int),.int .u32 (f.ahead:Int)] 159)).heap.size=w.heap.size+1:=by simp
 have s2:((w.alloc (.cells #[.int .u32 (f.p:Int),.int .u32 (f.root:Int),.int .u32 (f.neg:Int),.int .u32 (f.square:Int),.int .u32 (f.ahead:Int)] 159)).alloc (.cells #[.int .u32 (g.p:Int),.int .u32 (g.root:Int),.int .u32 (g.neg:Int),.int .u32 (g.square:Int),.int .u32 (g.ahead:Int)] 159)).heap.size=w.heap.size+1+1:=by simp
 rw [s1] at h2
 rw [s2] at h3
 exact ⟨(h1.ext (((Ext.refl _).alloc _).alloc _)).ext ((Ext.refl _).drew),(h2.ext ((Ext.refl _).alloc _)).ext ((Ext.refl _).drew),h3.ext ((Ext.refl _).drew),(((((Ext.refl w).alloc _).alloc _).alloc _).drew)⟩
end Go.Proofs.YtnilonnkcbkdmaaGreatDoor
/- Slices of 64-bit words: read, and made by the call itself. -/
namespace Go.Proofs.YtnilonnkcbkdmaaGreatDoor
open Go.RowKit
set_option linter.unusedVariables false
set_option maxHeartbeats 400000
theorem xH:(Tryz.prog.info? 73).map (fun i=>(i.zero,i.size,i.bytes))=some (some (.int .u64 0),1,8):=by kernel_rfl
def V (g:Nat) (w:World) (v:Value) (xs:List Nat):Prop :=
 ∃ (A:Option Addr) (c:Nat),v = .slice A xs.length c∧(xs.length≤c∧xs.length≤9223372036854775807)∧(∀ x∈xs,x<18446744073709551616) ∧
  (0<xs.length→∃ ad,A=some ad∧ad.block<w.heap.size∧ad.block≠g∧∀ j,j<xs.length→w.cell? (ad.add j)=some (.int .u64 (lb xs j:Nat)))
theorem V.lim {g:Nat} {w:World} {v:Value} {xs:List Nat} (h:V g w v xs):∀ x∈xs,x<18446744073709551616:=by
 obtain ⟨A,c,rfl,hc,hx,hr⟩:=h;exact hx
theorem V.keep {g:Nat} {w w':World} {v:Value} {xs:List Nat} (h:V g w v xs) (hs:w.heap.size≤w'.heap.size) (hk:∀ p:Addr,p.block<w.heap.size→p.block≠g→w'.cell? p=w.cell? p):V g w' v xs:=by
 obtain ⟨A,c,rfl,hc,hx,hr⟩:=h
 refine ⟨A,c,rfl,hc,hx,fun h0=>?_⟩
 obtain ⟨ad,hA,hb,hne,hcell⟩:=hr h0
 exact ⟨ad,hA,by omega,hne,fun j hj=>(hk _ (by rw [aM];exact hb) (by rw [aM];exact hne)).trans (hcell j hj)⟩
theorem V.below {g:Nat} {w w':World} {v:Value} {xs:List Nat} (h:V g w v xs) (hb:Ext w w'):V g w' v xs:=h.keep hb.size fun _ hp _=>hb.cell hp
theorem V.but {g:Nat} {w w':World} {v:Value} {xs:List Nat} (h:V g w v xs) (hb:But g w w'):V g w' v xs:=h.keep hb.size fun _ hp hn=>hb.cell hp hn
theorem V.new {g g':Nat} {w:World} {v:Value} {xs:List Nat} (h:V g' w v xs) (hg:w.heap.size≤g):V g w v xs:=by
 obtain ⟨A,c,rfl,hc,hx,hr⟩:=h
 refine ⟨A,c,rfl,hc,hx,fun h0=>?_⟩
 obtain ⟨ad,hA,hb,hne,hcell⟩:=hr h0
 exact ⟨ad,hA,hb,by omega,hcell⟩
theorem V.take {g:Nat} {w:World} {A:Option Addr} {n c:Nat} {xs:List Nat} (h:V g w (.slice A n c) xs) {k c':Nat} (hk:k≤n) (hc':k≤c'):V g w (.slice A k c') (xs.take k):=by
 obtain ⟨A,c,hv,hc,hx,hr⟩:=h
 injection hv with h1 h2 h3
 subst h1 h2 h3
 have hlen:(xs.take k).length=k:=by simp;omega
 refine ⟨_,c',by rw [hlen],by omega,fun x hx'=>hx x (List.mem_of_mem_take hx'),fun h0=>?_⟩
 obtain ⟨ad,hA,hb,hne,hcell⟩:=hr (by omega)
 refine ⟨ad,hA,hb,hne,fun j hj=>?_⟩
 rw [hcell j (by omega),kv (by omega)]
theorem V.drop {g:Nat} {w:World} {ad:Addr} {n c:Nat} {xs:List Nat} (h:V g w (.slice (some ad) n c) xs) {k m c':Nat} (hk:k≤n) (hm:n-k=m) (hc':m≤c'):V g w (.slice (some (ad.add k)) m c') (xs.drop k):=by
 obtain ⟨A,c,hv,hc,hx,hr⟩:=h
 injection hv with h1 h2 h3
 subst h1 h2 h3
 have hlen:(xs.drop k).length=m:=by simp;omega
 refine ⟨_,c',by rw [hlen],by omega,fun x hx'=>hx x (List.mem_of_mem_drop hx'),fun h0=>?_⟩
 obtain ⟨ad',hA,hb,hne,hcell⟩:=hr (by omega)
 injection hA with hA
 subst hA
 refine ⟨_,rfl,by rw [aM];exact hb,by rw [aM];exact hne,fun j hj=>?_⟩
 rw [addr_add_add,hcell (k+j) (by omega),FZ]
theorem V.opened {g:Nat} {w:World} {v:Value} {xs:List Nat} (h:V g w v xs) {n:Nat} (hn:xs.length=n) (h0:0<n):∃ ad c,v = .slice (some ad) n c∧n≤c∧ad.block<w.heap.size∧ad.block≠g∧∀ j,j<n→w.cell? (ad.add j)=some (.int .u64 (lb xs j:Nat)):=by
 subst hn
 obtain ⟨A,c,rfl,hc,hx,hr⟩:=h
 obtain ⟨ad,rfl,hb,hne,hcell⟩:=hr h0
 exact ⟨ad,c,rfl,hc.1,hb,hne,hcell⟩
theorem V.shape {g:Nat} {w:World} {v:Value} {xs:List Nat} (h:V g w v xs):∃ A c,v = .slice A xs.length c∧xs.length≤c:=by
 obtain ⟨A,c,rfl,hc,_⟩:=h;exact ⟨A,c,rfl,hc.1⟩
def ry (o:List Nat):List Value:=o.map fun x=>Value.int .u64 (x:Nat)
theorem fK (o:List Nat):(ry o).length=o.length:=by simp [ry]
theorem XK (o:List Nat) {j:Nat} (h:j<o.length):(ry o)[j]?=some (.int .u64 (lb o j:Nat)):=by
 unfold ry lb;simp [h]
theorem JL (a b:List Nat):ry (a++b)=ry a++ry b:=by simp [ry]
theorem ajB (a:List Nat) (i x:Nat):ry (a.set i x)=(ry a).set i (.int .u64 (x:Nat)):=by simp [ry,List.map_set]
theorem Mt (k:Nat):ry (List.replicate k 0)=List.replicate k (.int .u64 0):=by simp [ry]
def Ow (w:World) (base:Nat) (v:Value) (o:List Nat):Prop:=w.ownsRow base 73 1 v o.length (ry o)
theorem Ow.caps {w:World} {base g n c:Nat} {o:List Nat} (h:Ow w base (.slice (some ⟨g,0,none⟩) n c) o):n=o.length∧n≤c∧c≤maxLen:=by
 rcases h.2 with ⟨h1,_⟩ | ⟨g',cap,cur,h1,hg,hh,h2,h3,h4,h5⟩
 · cases h1
 · injection h1 with e1 e2 e3
   subst e2 e3
   exact ⟨rfl,h2,h3⟩
theorem Ow.block {w:World} {base g n c:Nat} {o:List Nat} (h:Ow w base (.slice (some ⟨g,0,none⟩) n c) o):base≤g∧g<w.heap.size:=by
 have h0:w.ownsRow base 73 1 (.slice (some ⟨g,0,none⟩) n c) o.length (ry o):=h
 exact h0.lt g rfl
theorem Ow.cell {w:World} {base g n c:Nat} {o:List Nat} (h:Ow w base (.slice (some ⟨g,0,none⟩) n c) o) {j:Nat} (hj:j<n):w.cell? ⟨g,j,none⟩=some (.int .u64 (lb o j:Nat)):=by
 obtain ⟨e,_,_⟩:=h.caps
 subst e
 have h0:w.ownsRow base 73 1 (.slice (some ⟨g,0,none⟩) o.length c) o.length (ry o):=h
 rw [World.ownsRow.cellAt h0 j (by omega)];exact XK o hj
theorem Ow.frozen {w:World} {base g n c:Nat} {o:List Nat} (h:Ow w base (.slice (some ⟨g,0,none⟩) n c) o) (j:Nat):w.frozen? ⟨g,j,none⟩=false:=by
 obtain ⟨e,_,_⟩:=h.caps
 subst e
 have h0:w.ownsRow base 73 1 (.slice (some ⟨g,0,none⟩) o.length c) o.length (ry o):=h
 exact World.ownsRow.frozenAt h0 j
theorem Ow.rO {w:World} {base g n c:Nat} {o:List Nat} (h:Ow w base (.slice (some ⟨g,0,none⟩) n c) o) (j x:Nat):Ow (w.setCell ⟨g,j,none⟩ (.int .u64 (x:Nat))) base (.slice (some ⟨g,0,none⟩) n c) (o.set j x):=by
 obtain ⟨e,_,_⟩:=h.caps
 subst e
 have h0:w.ownsRow base 73 1 (.slice (some ⟨g,0,none⟩) o.length c) o.length (ry o):=h
 have:=(World.ownsRow.stored h0 j (.int .u64 (x:Nat))).1
 unfold Ow
 rw [ajB,List.length_set]
 exact this
theorem Ow.drew {w:World} {base:Nat} {v:Value} {o:List Nat} (h:Ow w base v o):Ow w.drew base v o:=h
theorem Ow.alloc {w:World} {base:Nat} {v:Value} {o:List Nat} (h:Ow w base v o) (x:Obj):Ow (w.alloc x) base v o:=World.ownsRow.alloc h x
theorem Ow.below {w w':World} {base B:Nat} {v:Value} {o:List Nat} (h:Ow w base v o) (hB:Below B w w') (hv:∀ g,v.ownBlock=some g→g<B):Ow w' base v o:=by
 refine ⟨h.1,?_⟩
 rcases h.2 with hn | ⟨g,cap,cur,rfl,hb,hgg,rest⟩
 · exact .inl hn
 · refine .inr ⟨g,cap,cur,rfl,hb,?_,rest⟩
   rw [hB.block g (hv g rfl)]
   exact hgg
theorem Ow.ext {w w':World} {base g n c:Nat} {o:List Nat} (h:Ow w base (.slice (some ⟨g,0,none⟩) n c) o) (hB:Ext w w'):Ow w' base (.slice (some ⟨g,0,none⟩) n c) o :=
 h.below hB fun g' e=>by have h2:=h.block.2;have e':g=g':=Option.some.inj e;omega
theorem Ow.but {w w':World} {base g q n c:Nat} {o:List Nat} (h:Ow w base (.slice (some ⟨g,0,none⟩) n c) o) (hb:But q w w') (hne:g≠q):Ow w' base (.slice (some ⟨g,0,none⟩) n c) o:=by
 have hlt:=h.block.2
 refine ⟨h.1,?_⟩
 rcases h.2 with hn | ⟨q',cap,cur,e,hbq,hgg,rest⟩
 · exact .inl hn
 · injection e with e1 e2 e3
   injection e1 with e1
   injection e1 with e1
   subst e1
   refine .inr ⟨g,cap,cur,by rw [e2,e3],hbq,?_,rest⟩
   rw [hb.block g hlt (fun e=>hne (by injection e))]
   exact hgg
theorem Ow.rM {w:World} {base base':Nat} {v:Value} {o:List Nat} (h:Ow w base v o) (hb:base'≤base):Ow w base' v o:=by
 refine ⟨h.1,?_⟩
 rcases h.2 with hn | ⟨g,cap,cur,rfl,hg,rest⟩
 · exact .inl hn
 · exact .inr ⟨g,cap,cur,rfl,by omega,rest⟩
theorem Ow.zeros {w:World} {base g:Nat} {n:Nat} (h:w.ownsRow base 73 1 (.slice (some ⟨g,0,none⟩) n n) n (madeCells (Value.int .u64 0).cells (n*1)).toList) :
  Ow w base (.slice (some ⟨g,0,none⟩) n n) (List.replicate n 0):=by
 have e:(madeCells (Value.int .u64 0).cells (n*1)).toList=ry (List.replicate n 0):=by
  rw [Mt,Nat.mul_one];exact toList_madeCells_one _ _
 rw [e] at h
 unfold Ow
 rw [List.length_replicate]
 exact h
theorem Ow.J5 {w:World} {base g n c:Nat} {o:List Nat} (h:Ow w base (.slice (some ⟨g,0,none⟩) n c) o) (hx:∀ x∈o,x<18446744073709551616) (q:Nat) (hq:g≠q):V q w (.slice (some ⟨g,0,none⟩) n c) o:=by
 obtain ⟨e,h1,h2⟩:=h.caps
 subst e
 refine ⟨_,c,rfl,⟨h1,by unfold maxLen at h2;omega⟩,hx,fun h0=>⟨_,rfl,h.block.2,hq,fun j hj=>?_⟩⟩
 rw [KG];exact h.cell hj
theorem Ext.but {g:Nat} {a b c:World} (h:Ext a b) (k:But g b c) (hg:a.heap.size≤g):Ext a c:=Below.trans h (k.below hg h.size)
end Go.Proofs.YtnilonnkcbkdmaaGreatDoor
/- Limbs as words, and back. -/
namespace Go.Proofs.YtnilonnkcbkdmaaGreatDoor
open Go.RowKit
set_option linter.unusedVariables false
set_option maxHeartbeats 400000
theorem u64_or32 (x y z:Nat) (hx:x<4294967296) (hy:y<4294967296) (hz:x+4294967296*y=z):bits .or .u64 (x:Int) ((4294967296*y:Nat):Int)=(z:Int):=by
 rw [u64_or_nat _ _ (by omega) (by omega),Nat.or_comm,nat_join 32 _ x (Nat.mul_mod_right _ _) hx]
 omega
structure PkI (xs:List Nat) (m i:Nat) (o:List Nat):Prop where
 len:o.length=m
 at_:∀ j,j<i→lb o j=lb (j5 xs) j
theorem PkI.step {xs:List Nat} {m i:Nat} {o:List Nat} (h:PkI xs m i o) (hi:i<m) (x:Nat) (hx:lb (j5 xs) i=x):PkI xs m (i+1) (o.set i x):=by
 refine ⟨by simp [h.len],fun j hj=>?_⟩
 rw [lV _ _ _ _ (by rw [h.len];exact hi)]
 by_cases e:i=j
 · rw [if_pos e,← e,hx]
 · rw [if_neg e];exact h.at_ j (by omega)
theorem PkI.done {xs:List Nat} {m:Nat} {o:List Nat} (h:PkI xs m m o) (hm:(j5 xs).length=m):o=j5 xs :=
 rP (by rw [h.len,hm]) fun j hj=>h.at_ j (by rw [← h.len];exact hj)
set_option maxRecDepth 100000 in
set_option maxHeartbeats 4000000 in
theorem p9 (w:World) (v:Value) (xs:List Nat) (h:U w v xs) (hl:xs.length≤1000000) (m:Nat) (hm:(xs.length+1)/2=m) :
  Calls Tryz.prog 127 #[v] w fun e w'=>e = .returned (.slice (some ⟨w.heap.size,0,none⟩) m m)∧Ow w' w.heap.size (.slice (some ⟨w.heap.size,0,none⟩) m m) (j5 xs)∧Ext w w':=by
 obtain ⟨A,c,rfl,⟨hc,hmx⟩,hx,hr⟩:=h
 obtain ⟨i0,hi,hz0,hz1,hz2⟩:=info_parts xH
 obtain ⟨n,hn⟩:∃ n,xs.length=n:=⟨_,rfl⟩
 rw [hn] at hc hmx hr hl hm ⊢
 have HM:Hid ((j5 xs).length=m):=by rw [Hid,lG,hn];exact hm
 have HN:=Lib.hid hn
 have HXL:=Lib.hid (BL xs)
 have hmi:((n:Int)+1)/2=(m:Int):=by omega
 obtain ⟨q,hq⟩:∃ q,n/2=q:=⟨_,rfl⟩
 have hqi:(n:Int)/2=(q:Int):=by omega
 obtain ⟨B,hB⟩:∃ B,w.heap.size=B:=⟨_,rfl⟩
 rw [hB]
 have pW:=Lib.hid hB
 have hm1:m≤1000000:=by omega
 clear hn
 go_enter Tryz.func127,Tryz.ntmps127
 go_wp2_with (at_make;refine wpList_make_full _ rfl _ _ 130 rfl w.heap.size 73 i0 (.int .u64 0) 1 Tryz.underlying130 hi hz0 hz1 _ _ _ _ m rfl rfl (by omega) (by omega) (by rw [hz2];omega) (by unfold maxLen;omega) (Nat.le_refl _) ?_;intro w1 hown hgrow)
 have ho0:=Ow.zeros hown
 have hE0:Ext w w1:=(Ext.refl w).grown hgrow (Nat.le_refl _) (fun _ h=>by cases h)
 rw [hB] at ho0
 clear hown hgrow hi hz0 hz1 hz2 i0
 go_wp2
 go_loopw [13] (fun t wr=>∃ (i:Nat) (o:List Nat),i≤q∧t = .int .i64 (i:Nat)∧Hid (PkI xs m i o)∧Ow wr B (.slice (some ⟨B,0,none⟩) m m) o∧Ext w wr) (fun t _=>q-(intOf t).toNat)
 case atStart=>exact ⟨0,_,Nat.zero_le _,rfl,⟨by simp,fun j hj=>absurd hj (by omega)⟩,ho0,hE0⟩
 case round =>
  clear ho0 hE0
  obtain ⟨i,o,hiq,rfl,HO,hown,hE⟩:=hrel
  by_cases hlt:i<q
  · obtain ⟨ad,rfl,hb,hcell⟩:=hr (by omega)
    have hc0:=(hE.cell (p:=ad.add (2*i)) (by rw [aM];exact hb)).trans (hcell (2*i) (by omega))
    have hc1:=(hE.cell (p:=ad.add (2*i+1)) (by rw [aM];exact hb)).trans (hcell (2*i+1) (by omega))
    rw [ajd _ (2*i+1) (by omega)] at hc1
    have hb0:=aQ hx (2*i)
    have hb1:=aQ hx (2*i+1)
    have hz:=HXL.out i
    obtain ⟨x,hx0⟩:∃ x,lb xs (2*i)=x:=⟨_,rfl⟩
    obtain ⟨y,hy0⟩:∃ y,lb xs (2*i+1)=y:=⟨_,rfl⟩
    rw [hx0] at hc0 hb0 hz
    rw [hy0] at hc1 hb1 hz
    obtain ⟨z,hzz⟩:∃ z,x+4294967296*y=z:=⟨_,rfl⟩
    rw [hzz] at hz
    have hor:=u64_or32 x y z hb0 hb1 hzz
    have hyi:(y:Int)*4294967296=((4294967296*y:Nat):Int):=by omega
    have hyw:IntKind.u64.wrap ((4294967296*y:Nat):Int)=((4294967296*y:Nat):Int):=by rw [IntKind.wrap_u64];omega
    have hym:((4294967296*y:Nat):Int)%18446744073709551616=((4294967296*y:Nat):Int):=by omega
    have hxw:IntKind.u64.wrap (x:Int)=(x:Int):=by rw [IntKind.wrap_u64];omega
    have aHi:IntKind.u64.wrap (y:Int)=(y:Int):=by rw [IntKind.wrap_u64];omega
    have hf:=hown.frozen i
    have hcz:=hown.cell (j:=i) (by omega)
    have hown2:=hown.rO i z
    have hE2:=hE.setCell (p:=⟨B,i,none⟩) (by rw [hB];exact Nat.le_refl _) (.int .u64 (z:Nat))
    have HST:Hid (PkI xs m (i+1) (o.set i z)):=HO.out.step (by omega) z hz
    generalize 4294967296*y=y2 at *
    have h2a:(0:Int)≤2*(i:Int):=by omega
    have h2b:2*(i:Int)<(n:Int):=by omega
    have h2c:2*(i:Int)+1<(n:Int):=by omega
    have h2d:(2*(i:Int)).toNat=2*i:=by omega
    have h2e:(2*(i:Int)+1).toNat=2*i+1:=by omega
    have h2f:(i:Int)<(m:Int):=by omega
    have hbn:(ad.add (2*i)).block≠B:=by rw [aM];omega
    have aHj:ad.block≠B:=by omega
    clear hx0 hy0 hz hzz hb0 hb1 hown HO hE
    go_wp2
    go_region
    all_goals
     go_wp2
     go_roundw
     case rel=>exact ⟨i+1,_,by omega,by go_num,HST,hown2.drew,hE2.drew⟩
     case measure=>simp [intOf];omega
  · obtain rfl:i=q:=by omega
    by_cases hodd:n%2=1
    · have hmm:m=i+1:=by omega
      have hm2:(n:Int).tmod 2=1:=by rw [Int.tmod_eq_emod_of_nonneg (by omega)];omega
      have OD:(n:Int)%2=1:=by omega
      obtain ⟨ad,rfl,hb,hcell⟩:=hr (by omega)
      have hc0:=(hE.cell (p:=ad.add (2*i)) (by rw [aM];exact hb)).trans (hcell (2*i) (by omega))
      have hz:=HXL.out i
      rw [kE (o:=xs) (j:=2*i+1) (by rw [HN.out];omega),Nat.mul_zero,Nat.add_zero] at hz
      have hb0:=aQ hx (2*i)
      obtain ⟨x,hx0⟩:∃ x,lb xs (2*i)=x:=⟨_,rfl⟩
      rw [hx0] at hc0 hb0 hz
      have hxw:IntKind.u64.wrap (x:Int)=(x:Int):=by rw [IntKind.wrap_u64];omega
      have hf:=hown.frozen i
      have hcz:=hown.cell (j:=i) (by omega)
      have hown2:=hown.rO i x
      have hE2:=hE.setCell (p:=⟨B,i,none⟩) (by rw [hB];exact Nat.le_refl _) (.int .u64 (x:Nat))
      have HST:Hid (PkI xs m (i+1) (o.set i x)):=HO.out.step (by omega) x hz
      rw [← hmm] at HST
      have hdone:=HST.out.done HM.out
      rw [hdone] at hown2
      have e1:(n:Int)-1=((2*i:Nat):Int):=by omega
      have e2:(m:Int)-1=(i:Int):=by omega
      have e3:2*i<n:=by omega
      have e4:i<m:=by omega
      clear hx0 hz hb0 hown HO hE hdone HST
      go_wp2
      go_ret
      exact ⟨rfl,hown2,hE2⟩
    · have hmm:m=i:=by omega
      have hm2:(n:Int).tmod 2=0:=by rw [Int.tmod_eq_emod_of_nonneg (by omega)];omega
      have OD:(n:Int)%2=0:=by omega
      subst hmm
      have hdone:=HO.out.done HM.out
      rw [hdone] at hown
      clear hdone HO
      go_wp2
      go_ret
      exact ⟨rfl,hown,hE⟩
theorem Dc (w:World) (v:Value) (xs:List Nat) (h:U w v xs) :
  Calls Tryz.prog 128 #[v] w fun e w'=>(∃ u,e = .returned u∧Un w u (val xs))∧w=w':=by
 have h':=h
 obtain ⟨A,c,rfl,⟨hc,hm⟩,hx,hr⟩:=h
 go_enter Tryz.func128,Tryz.ntmps128
 go_wp2
 go_loop [3] (fun n=>∃ k:Nat,k≤xs.length∧n = .int .i64 k∧Hid (∀ j,k≤j→j<xs.length→lb xs j=0)) (fun n=>(intOf n).toNat)
 case atStart=>exact ⟨xs.length,Nat.le_refl _,rfl,fun j h1 h2=>by omega⟩
 case round =>
  obtain ⟨k,hk,rfl,hz⟩:=hrel
  have hfin:∀ c',k≤c'→(0<k→lb xs (k-1)≠0)→Un w (.slice A k c') (val xs):=fun c' h1 h2=>by
   unfold Un;rw [iJ xs k hx hk hz.out h2];exact h'.take hk h1
  rcases Nat.eq_zero_or_pos k with rfl | h0
  · have HF:=Lib.hid (hfin 0 (Nat.le_refl _) (fun h=>absurd h (by omega)))
    clear hfin
    go_wp2
    go_ways
    go_ret
    exact ⟨⟨_,rfl,HF.out⟩,rfl⟩
  · obtain ⟨ad,rfl,hb,hcell⟩:=hr (by omega)
    have hc1:=hcell (k-1) (by omega)
    by_cases hx0:lb xs (k-1)=0
    · have ht:((((lb xs (k-1):Nat)):Int)==0)=true:=by rw [hx0];rfl
      have HX:=Lib.hid hx0
      clear hx0
      go_wp2
      go_round
      case rel=>exact ⟨k-1,by omega,by go_num,fun j h1 h2=>by
       rcases Nat.lt_or_ge j k with h3 | h3
       · have:j=k-1:=by omega
         subst this;exact HX.out
       · exact hz.out j h3 h2⟩
      case measure=>simp [intOf];omega
    · have ht:((((lb xs (k-1):Nat)):Int)==0)=false:=by rw [beq_eq_false_iff_ne];omega
      have HF:=Lib.hid (hfin k (Nat.le_refl _) (fun _=>hx0))
      clear hfin hx0
      go_wp2
      go_ret
      exact ⟨⟨_,rfl,HF.out⟩,rfl⟩
structure UnI (ws:List Nat) (m i:Nat) (o:List Nat):Prop where
 len:o.length=m
 at_:∀ j,j<2*i→lb o j=lb (gZ ws) j
theorem UnI.step {ws:List Nat} {m i:Nat} {o:List Nat} (h:UnI ws m i o) (hi:2*i+1<m) (x:Nat) (hx:lb ws i=x):UnI ws m (i+1) ((o.set (2*i) (x%4294967296)).set (2*i+1) (x/4294967296)):=by
 refine ⟨by simp [h.len],fun j hj=>?_⟩
 have hu:=UL ws i
 rw [hx] at hu
 rw [lV _ _ _ _ (by rw [List.length_set,h.len];exact hi),lV _ _ _ _ (by rw [h.len];omega)]
 by_cases e:2*i+1=j
 · rw [if_pos e,← e,hu.2]
 · rw [if_neg e]
   by_cases e2:2*i=j
   · rw [if_pos e2,← e2,hu.1]
   · rw [if_neg e2];exact h.at_ j (by omega)
theorem UnI.done {ws:List Nat} {m i:Nat} {o:List Nat} (h:UnI ws m i o) (hm:(gZ ws).length=m) (hi:2*i=m):o=gZ ws :=
 rP (by rw [h.len,hm]) fun j hj=>h.at_ j (by rw [hi,← h.len];exact hj)
set_option maxRecDepth 100000 in
set_option maxHeartbeats 4000000 in
theorem wI (w:World) (g0:Nat) (v:Value) (ws:List Nat) (h:V g0 w v ws) (hl:ws.length≤1000000) :
  Calls Tryz.prog 125 #[v] w fun e w'=>(∃ u,e = .returned u∧Un w' u (bF ws))∧Ext w w':=by
 obtain ⟨A,c,rfl,⟨hc,hmx⟩,hx,hr⟩:=h
 obtain ⟨i0,hi,hz0,hz1,hz2⟩:=info_parts iT
 obtain ⟨n,hn⟩:∃ n,ws.length=n:=⟨_,rfl⟩
 rw [hn] at hc hmx hr hl ⊢
 obtain ⟨m,hm⟩:∃ m,2*n=m:=⟨_,rfl⟩
 have HM:Hid ((gZ ws).length=m):=by rw [Hid,Eu,hn];exact hm
 have hmi:(2:Int)*(n:Int)=(m:Int):=by omega
 obtain ⟨B,hB⟩:∃ B,w.heap.size=B:=⟨_,rfl⟩
 have hm1:m≤2000000:=by omega
 have HW:=Lib.hid (F6 ws hx)
 have HV:=Lib.hid (Ev ws)
 have HTR:=Lib.hid (fun W v h=>Dc W v (gZ ws) h)
 clear hn
 go_enter Tryz.func125,Tryz.ntmps125
 go_wp2_with (at_make;refine wpList_make_full _ rfl _ _ 22 rfl w.heap.size 43 i0 (.int .u32 0) 1 Tryz.underlying22 hi hz0 hz1 _ _ _ _ m rfl rfl (by omega) (by omega) (by rw [hz2];omega) (by unfold maxLen;omega) (Nat.le_refl _) ?_;intro w1 hown hgrow)
 have ho0:Own w1 w.heap.size (.slice (some ⟨w.heap.size,0,none⟩) m m) (List.replicate m 0):=by
  have:=Own.zeros hown
  rwa [List.length_replicate] at this
 have hE0:Ext w w1:=(Ext.refl w).grown hgrow (Nat.le_refl _) (fun _ h=>by cases h)
 rw [hB] at ho0
 clear hown hgrow hi hz0 hz1 hz2 i0
 go_wp2
 go_loopw [12] (fun t wr=>∃ (i:Nat) (o:List Nat),i≤n∧t = .int .i64 (i:Nat)∧Hid (UnI ws m i o)∧Own wr B (.slice (some ⟨B,0,none⟩) m m) o∧Ext w wr) (fun t _=>n-(intOf t).toNat)
 case atStart=>exact ⟨0,_,Nat.zero_le _,rfl,⟨by simp,fun j hj=>absurd hj (by omega)⟩,ho0,hE0⟩
 case round =>
  clear ho0 hE0
  obtain ⟨i,o,hiq,rfl,HO,hown,hE⟩:=hrel
  by_cases hlt:i<n
  · obtain ⟨ad,rfl,hb,hne,hcell⟩:=hr (by omega)
    have hc0:=(hE.cell (p:=ad.add i) (by rw [aM];exact hb)).trans (hcell i hlt)
    have hb0:lb ws i<18446744073709551616:=eX (by decide) hx i
    obtain ⟨x,hx0⟩:∃ x,lb ws i=x:=⟨_,rfl⟩
    rw [hx0] at hc0 hb0
    have HST:Hid (UnI ws m (i+1) ((o.set (2*i) (x%4294967296)).set (2*i+1) (x/4294967296))):=HO.out.step (by omega) x hx0
    have hol:=HO.out.len
    have hf0:=hown.frozen' (2*i)
    have hf1:=hown.frozen' (2*i+1)
    have hk0:=hown.rd.2 (2*i) (by omega)
    have hk1:=hown.rd.2 (2*i+1) (by omega)
    have hown2:=(hown.set' (2*i) (x%4294967296)).set' (2*i+1) (x/4294967296)
    have hE2:=(hE.setCell (p:=⟨B,2*i,none⟩) (by rw [hB];exact Nat.le_refl _) (.int .u32 (x%4294967296:Nat))).setCell (p:=⟨B,2*i+1,none⟩) (by rw [hB];exact Nat.le_refl _) (.int .u32 (x/4294967296:Nat))
    obtain ⟨x0,aaZ⟩:∃ x0,x%4294967296=x0:=⟨_,rfl⟩
    obtain ⟨x1,aa0⟩:∃ x1,x/4294967296=x1:=⟨_,rfl⟩
    rw [aaZ,aa0] at HST hown2 hE2
    have f0:IntKind.u32.wrap (x:Int)=(x0:Int):=by rw [IntKind.wrap_u32];omega
    have f00:(x:Int)%4294967296=(x0:Int):=by omega
    have f1:(x:Int)/4294967296=(x1:Int):=by omega
    have ahs:x1<4294967296:=by omega
    have f2:IntKind.u32.wrap (x1:Int)=(x1:Int):=by rw [IntKind.wrap_u32];omega
    have f3:(x1:Int)%4294967296=(x1:Int):=by omega
    have h2a:(0:Int)≤2*(i:Int):=by omega
    have h2b:2*(i:Int)<(m:Int):=by omega
    have h2c:2*(i:Int)+1<(m:Int):=by omega
    have h2d:(2*(i:Int)).toNat=2*i:=by omega
    have h2e:(2*(i:Int)+1).toNat=2*i+1:=by omega
    have hbn:(ad.add i).block≠B:=by rw [aM];omega
    clear hx0 hb0 aaZ aa0 hown HO hE hol
    go_wp2
    go_roundw
    case rel=>exact ⟨i+1,_,by omega,by go_num,HST,hown2,hE2⟩
    case measure=>simp [intOf];omega
  · obtain rfl:i=n:=by omega
    have hdone:=HO.out.done HM.out hm
    rw [hdone] at hown
    have hu:=hown.lW HW.out (by rw [HM.out];omega)
    clear hdone HO hown
    go_wp2_with (fail)
    refine (HTR.out _ _ hu).mono ?_
    rintro e w2 ⟨⟨u,rfl,hu2⟩,rfl⟩
    rw [HV.out] at hu2
    have HF:Hid (∃ u',Ending.returned u = .returned u'∧Un wr u' (bF ws)):=⟨_,rfl,hu2⟩
    clear hu2 hu
    go_wp2
    go_ret
    exact ⟨HF.out,hE⟩
end Go.Proofs.YtnilonnkcbkdmaaGreatDoor
