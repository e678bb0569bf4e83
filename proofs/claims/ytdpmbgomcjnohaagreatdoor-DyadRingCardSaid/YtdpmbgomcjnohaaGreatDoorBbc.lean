/- Digits to a base, the highest first: plain lists and naturals. -/
import Derived.Test.YtdpmbgomcjnohaaGreatDoorBae
import Derived.Test.YtdpmbgomcjnohaaGreatDoorBag
import Derived.Test.YtdpmbgomcjnohaaGreatDoorBam
import Derived.Test.YtdpmbgomcjnohaaGreatDoorBap
import Derived.Test.YtdpmbgomcjnohaaGreatDoorBaj
import Derived.Test.YtdpmbgomcjnohaaGreatDoorBbb
import Derived.Test.YtdpmbgomcjnohaaGreatDoorBav
import Derived.Test.YtdpmbgomcjnohaaGreatDoorBaq
import Derived.Test.YtdpmbgomcjnohaaGreatDoorBar
import Derived.Lib.SlTrimSet
import Derived.Lib.Bytealg
import Derived.Laws.CopyOwn
import Derived.Deep.RegionLaw
import Derived.Maps.AppendAt
import Derived.Ground.NamesProg
import Derived.Shelf.Lay
import Derived.Shelf.Strings.SlTrimAscii
import Derived.Laws.IdiomStrings
import Derived.Laws.Concat
import Derived.Deep.RegionHeld3

namespace Go.Proofs.YtdpmbgomcjnohaaGreatDoor
set_option linter.unusedVariables false
set_option maxHeartbeats 400000
def Jq (b:Nat) (ds:List Nat):Nat:=ds.foldl (fun a d=>a*b+d) 0
theorem Ux (b:Nat) (ds:List Nat) (a:Nat):ds.foldl (fun a d=>a*b+d) a=a*b^ds.length+Jq b ds:=by
 induction ds generalizing a with
 | nil=>simp [Jq]
 | cons d ds ih =>
  have e:Jq b (d::ds)=(0*b+d)*b^ds.length+Jq b ds:=ih (0*b+d)
  rw [List.foldl_cons,ih,e,List.length_cons,Nat.pow_succ,Nat.add_mul,Nat.zero_mul,Nat.zero_add,Nat.mul_assoc,Nat.mul_comm b (b^ds.length),Nat.add_assoc]
theorem W9 (b:Nat):Jq b []=0:=rfl
theorem Pd (b:Nat) (xs ys:List Nat):Jq b (xs++ys)=Jq b xs*b^ys.length+Jq b ys:=by
 rw [Jq,List.foldl_append,Ux];rfl
def uU (b n:Nat):Nat→List Nat
 | 0=>[]
 | k+1=>uU b (n/b) k++[n%b]
theorem xg (b n k:Nat):(uU b n k).length=k:=by
 induction k generalizing n with
 | zero=>rfl
 | succ k ih=>rw [uU,List.length_append,ih];rfl
theorem Pe (b n j k:Nat):uU b n (j+k)=uU b (n/b^k) j++uU b (n%b^k) k:=by
 induction k generalizing n with
 | zero=>rw [Nat.pow_zero,Nat.div_one];simp [uU]
 | succ k ih =>
  rw [← Nat.add_assoc,uU,uU,ih,Nat.pow_succ,Nat.mul_comm (b^k) b,Nat.div_div_eq_div_mul,List.append_assoc]
  have h1:n%(b*b^k)/b=n/b%b^k:=by
   rw [Nat.mod_mul]
   rcases Nat.eq_zero_or_pos b with h | h
   · subst h;simp
   · rw [Nat.add_mul_div_left _ _ h,Nat.div_eq_of_lt (Nat.mod_lt _ h),Nat.zero_add]
  have h2:n%(b*b^k)%b=n%b:=Nat.mod_mul_right_mod _ _ _
  rw [h1,h2]
end Go.Proofs.YtdpmbgomcjnohaaGreatDoor
/- Digits without noughts ahead; how many there are. -/
namespace Go.Proofs.YtdpmbgomcjnohaaGreatDoor
set_option linter.unusedVariables false
set_option maxHeartbeats 400000
def nd (b a:Nat):List Nat:=if h:a=0∨b<2 then [] else nd b (a/b)++[a%b]
termination_by a
decreasing_by exact Nat.div_lt_self (by omega) (by omega)
theorem aan (b:Nat):nd b 0=[]:=by rw [nd];simp
theorem Xa {b a:Nat} (ha:a≠0) (hb:2≤b):nd b a=nd b (a/b)++[a%b]:=by
 rw [nd,dif_neg (by omega)]
theorem agD {b a:Nat} (ha:a≠0) (hb:2≤b):nd b a≠[]:=by rw [Xa ha hb];simp
end Go.Proofs.YtdpmbgomcjnohaaGreatDoor
/- Digits as bytes, and back; chunks of digits; the powers that are kept. -/
namespace Go.Proofs.YtdpmbgomcjnohaaGreatDoor
set_option linter.unusedVariables false
set_option maxHeartbeats 400000
def Nt (d:Nat):Nat:=if d<10 then 48+d else 87+d
structure Sc (b n p:Nat):Prop where
 b2:2≤b
 b36:b≤36
 n1:1≤n
 pw:p=b^n
 fit:p<4294967296
 most:4294967296≤p*b
structure ScI (b n p:Nat):Prop where
 n1:1≤n
 pw:p=b^n
 fit:p<4294967296
theorem ScI.step {b n p:Nat} (h:ScI b n p) (hlt:p*b<4294967296):ScI b (n+1) (p*b):=⟨by omega,by rw [h.pw,Nat.pow_succ],hlt⟩
theorem ScI.done {b n p:Nat} (h:ScI b n p) (h2:2≤b) (h36:b≤36) (hge:4294967296≤p*b):Sc b n p:=⟨h2,h36,h.n1,h.pw,h.fit,hge⟩
def kp (b n i:Nat):Nat:=b^(16*n*2^i)
end Go.Proofs.YtdpmbgomcjnohaaGreatDoor
/- Digits: their order, their places, bits of them; powers. -/
namespace Go.Proofs.YtdpmbgomcjnohaaGreatDoor
set_option linter.unusedVariables false
set_option maxHeartbeats 400000
def dt (b a:Nat):List Nat:=if a=0 then [0] else nd b a
theorem aao (b:Nat):dt b 0=[0]:=rfl
theorem ad6 {b a:Nat} (h:a≠0):dt b a=nd b a:=if_neg h
theorem TJ (b:Nat):∀ (k a i:Nat),i<k→lb (uU b a k) (k-1-i)=a/b^i%b
 | k+1,a,0,_=>by
  rw [uU,Nat.pow_zero,Nat.div_one]
  unfold lb
  rw [List.getElem?_append_right (by rw [xg];omega),xg]
  simp
 | k+1,a,i+1,h=>by
  have ih:=TJ b k (a/b) i (by omega)
  rw [uU]
  unfold lb at *
  rw [List.getElem?_append_left (by rw [xg];omega),show k+1-1-(i+1)=k-1-i by omega,ih,Nat.div_div_eq_div_mul,Nat.pow_succ,Nat.mul_comm]
end Go.Proofs.YtdpmbgomcjnohaaGreatDoor
/- A base's scale. -/
namespace Go.Proofs.YtdpmbgomcjnohaaGreatDoor
open Go.RowKit
set_option linter.unusedVariables false
set_option maxHeartbeats 400000
def SBx (w:World) (B b n p:Nat):Prop:=B<w.heap.size∧w.cell? ⟨B,0,none⟩=some (.int .u32 (b:Nat))∧w.cell? ⟨B,1,none⟩=some (.int .i64 (n:Nat))∧w.cell? ⟨B,2,none⟩=some (.int .u32 (p:Nat))
theorem SBx.ext {w w':World} {B b n p:Nat} (h:SBx w B b n p) (hE:Ext w w'):SBx w' B b n p:=by
 obtain ⟨h0,h1,h2,h3⟩:=h
 have hc:=fun o=>hE.cell (p:=⟨B,o,none⟩) h0
 exact ⟨Nat.lt_of_lt_of_le h0 hE.size,by rw [hc];exact h1,by rw [hc];exact h2,by rw [hc];exact h3⟩
def Wr (w:World) (B:Nat):Prop:=∀ j,w.frozen? ⟨B,j,none⟩=false
theorem Wr.setCell {w:World} {B:Nat} (h:Wr w B) (p:Addr) (v:Value):Wr (w.setCell p v) B:=by
 intro j
 have:=h j
 go_simp
end Go.Proofs.YtdpmbgomcjnohaaGreatDoor
/- Rows of bytes; a chunk of digits, and a row of digits chunk by chunk: plain mathematics and memory. -/
namespace Go.Proofs.YtdpmbgomcjnohaaGreatDoor
open Go.RowKit
set_option linter.unusedVariables false
set_option maxHeartbeats 400000
def Bv (o:List Nat):List Value:=o.map fun x=>Value.int .u8 (x:Nat)
theorem aep (o:List Nat) {j:Nat} (h:j<o.length):(Bv o)[j]?=some (.int .u8 (lb o j:Nat)):=by unfold Bv lb;simp [h]
def By (T:TypeId) (w:World) (g:Nat) (o:List Nat):Prop:=w.heap[g]?=some (.cells (Bv o).toArray T (0,0))
theorem By.lt {T:TypeId} {w:World} {g:Nat} {o:List Nat} (h:By T w g o):g<w.heap.size:=(Array.getElem?_eq_some_iff.1 h).1
theorem By.cell {T:TypeId} {w:World} {g:Nat} {o:List Nat} (h:By T w g o) {j:Nat} (hj:j<o.length):w.cell? ⟨g,j,none⟩=some (.int .u8 (lb o j:Nat)):=by
 rw [cell_of_row w g j _ _ _ h,List.getElem?_toArray];exact aep o hj
theorem By.other {T:TypeId} {w:World} {g q:Nat} {o:List Nat} (h:By T w g o) (hne:g≠q) (j:Nat) (v:Value):By T (w.setCell ⟨q,j,none⟩ v) g o:=by
 unfold By
 rw [heap_setCell_other w ⟨q,j,none⟩ g v hne];exact h
theorem By.ext {T:TypeId} {w w':World} {g:Nat} {o:List Nat} (h:By T w g o) (hE:Ext w w'):By T w' g o:=by
 unfold By
 rw [hE.block g h.lt];exact h
theorem By.but {T:TypeId} {w w':World} {g q:Nat} {o:List Nat} (h:By T w g o) (hE:But q w w') (hne:g≠q):By T w' g o:=by
 unfold By
 rw [hE.block g h.lt (fun e=>hne (by injection e))];exact h
structure CkI (b n r0 k:Nat) (c:List Nat) (r:Nat):Prop where
 len:c.length=32
 at_:∀ j,k≤j→j<n→lb c j=Nt (lb (uU b r0 n) j)
 rest:r=r0/b^(n-k)
theorem CkI.step {b n r0 k:Nat} {c:List Nat} {r:Nat} (h:CkI b n r0 (k+1) c r) (hk:k<n) (hn:n≤32):CkI b n r0 k (c.set k (Nt (r%b))) (r/b):=by
 refine ⟨by simp [h.len],fun j h1 h2=>?_,?_⟩
 · rw [rH _ _ _ _ (by rw [h.len];omega)]
   by_cases e:k=j
   · subst e
     rw [if_pos rfl]
     have:=TJ b n r0 (n-(k+1)) (by omega)
     rw [show n-1-(n-(k+1))=k by omega,← h.rest] at this
     rw [this]
   · rw [if_neg e];exact h.at_ j (by omega) h2
 · rw [h.rest,Nat.div_div_eq_div_mul,← Nat.pow_succ];congr 2;omega
theorem CkI.done {b n r0:Nat} {c:List Nat} {r:Nat} (h:CkI b n r0 0 c r) (hn:n≤32):c.take n=(uU b r0 n).map Nt:=by
 have e1:(c.take n).length=n:=by rw [List.length_take,h.len];omega
 refine yl (by rw [e1,List.length_map,xg]) fun j hj=>?_
 rw [e1] at hj
 rw [qV hj,h.at_ j (Nat.zero_le _) hj]
 have hj2:j<(uU b r0 n).length:=by rw [xg];exact hj
 unfold lb
 simp [hj2]
theorem Pv (b a n k:Nat) (h:k≤n):uU b (a%b^n) k=uU b a k:=by
 obtain ⟨d,rfl⟩:∃ d,n=k+d:=⟨n-k,by omega⟩
 clear h
 induction k generalizing a with
 | zero=>rfl
 | succ k ih =>
  rw [uU,uU]
  have e:k+1+d=(k+d)+1:=by omega
  rw [e,Nat.pow_succ,Nat.mul_comm (b^(k+d)) b,Nat.mod_mul_right_div_self,ih,Nat.mod_mul_right_mod]
structure WrI (b len a0:Nat) (pre mid post:List Nat) (m:Nat) (o:List Nat) (a:Nat):Prop where
 le:m≤len
 row:o=pre++(mid.take m++(((uU b a0 len).map Nt).drop m++post))
 rest:a=a0/b^(len-m)
theorem WrI.step {b len a0 n:Nat} {pre mid post:List Nat} {m:Nat} {o:List Nat} {a:Nat} (h:WrI b len a0 pre mid post m o a) (hb:2≤b) (hmid:mid.length=len) (ha:a0<b^len) (k:Nat) (hk:min n m=k) :
  WrI b len a0 pre mid post (m-k) (splice o (pre.length+(m-k)) ((uU b (a%b^n) k).map Nt)) (a/b^n):=by
 have hle:=h.le
 have hkm:k≤m:=by omega
 refine ⟨by omega,?_,?_⟩
 · rw [Pv b a n k (by omega)]
   have e1:(uU b a0 len).drop (m-k)=uU b a k++(uU b a0 len).drop m:=by
    have h1:uU b a0 len=uU b a m++uU b (a0%b^(len-m)) (len-m):=by
     have:=Pe b a0 m (len-m)
     rw [show m+(len-m)=len by omega] at this
     rw [this,h.rest]
    have h2:uU b a m=uU b (a/b^k) (m-k)++uU b a k:=by
     have:=Pe b a (m-k) k
     rw [show m-k+k=m by omega,Pv b a k k (Nat.le_refl _)] at this
     exact this
    rw [h1,List.drop_append_of_le_length (by rw [xg];omega),List.drop_left' (by rw [xg]),h2,List.drop_left' (by rw [xg])]
   rw [h.row,splice,← List.map_drop,← List.map_drop,e1,List.map_append]
   have l1:((uU b a k).map Nt).length=k:=by rw [List.length_map,xg]
   have l2:(mid.take m).length=m:=by rw [List.length_take];omega
   rw [l1]
   have t1:(pre++(mid.take m++(((uU b a0 len).drop m).map Nt++post))).take (pre.length+(m-k))=pre++mid.take (m-k):=by
    rw [List.take_length_add_append,List.take_append_of_le_length (by rw [l2];omega),List.take_take,Nat.min_eq_left (by omega)]
   have t2:(pre++(mid.take m++(((uU b a0 len).drop m).map Nt++post))).drop (pre.length+(m-k)+k)=((uU b a0 len).drop m).map Nt++post:=by
    rw [show pre.length+(m-k)+k=pre.length+m by omega,List.drop_length_add_append,List.drop_left' l2]
   rw [t1,t2]
   simp only [List.append_assoc]
 · rw [h.rest,Nat.div_div_eq_div_mul,← Nat.pow_add]
   rcases Nat.le_total n m with h1 | h1
   · congr 2;omega
   · have hz:a0/b^(len-m+n)=0:=Nat.div_eq_of_lt (Nat.lt_of_lt_of_le ha (Nat.pow_le_pow_right (by omega) (by omega)))
     rw [hz,show len-(m-k)=len by omega,Nat.div_eq_of_lt ha]
end Go.Proofs.YtdpmbgomcjnohaaGreatDoor
/- A row of digits is written. -/
namespace Go.Proofs.YtdpmbgomcjnohaaGreatDoor
open Go.RowKit
set_option linter.unusedVariables false
set_option maxHeartbeats 400000
theorem SBx.other {w:World} {B b n p:Nat} (h:SBx w B b n p) {q:Nat} (hne:B≠q) (j:Nat) (v:Value):SBx (w.setCell ⟨q,j,none⟩ v) B b n p:=by
 obtain ⟨h0,h1,h2,h3⟩:=h
 have hc:∀ i,(w.setCell ⟨q,j,none⟩ v).cell? ⟨B,i,none⟩=w.cell? ⟨B,i,none⟩:=fun i=>World.cell?_of_block (heap_setCell_other w ⟨q,j,none⟩ B v hne)
 exact ⟨by simpa [World.setCell] using h0,by rw [hc];exact h1,by rw [hc];exact h2,by rw [hc];exact h3⟩
theorem SBx.but {w w':World} {B b n p g:Nat} (h:SBx w B b n p) (hE:But g w w') (hne:B≠g):SBx w' B b n p:=by
 obtain ⟨h0,h1,h2,h3⟩:=h
 have hc:∀ i,w'.cell? ⟨B,i,none⟩=w.cell? ⟨B,i,none⟩:=fun i=>hE.cell h0 hne
 exact ⟨Nat.lt_of_lt_of_le h0 hE.size,by rw [hc];exact h1,by rw [hc];exact h2,by rw [hc];exact h3⟩
end Go.Proofs.YtdpmbgomcjnohaaGreatDoor
/- A row of slices that grows; what is kept meanwhile. -/
namespace Go.Proofs.YtdpmbgomcjnohaaGreatDoor
open Go.RowKit
set_option linter.unusedVariables false
set_option maxHeartbeats 400000
def Sl (u:Value):Prop:=∃ a l c,u = .slice a l c
theorem U.sl {w:World} {v:Value} {xs:List Nat} (h:U w v xs):Sl v:=by
 obtain ⟨A,c,rfl,_⟩:=h
 exact ⟨_,_,_,rfl⟩
theorem Sl.one {u:Value} (h:Sl u):u.oneCell'=true:=by obtain ⟨a,l,c,rfl⟩:=h;rfl
theorem ND {w:World} {p:Addr} {v:Value} (h:w.cell? p=some v):p.block<w.heap.size:=by
 rcases Nat.lt_or_ge p.block w.heap.size with h1 | h1
 · exact h1
 · exfalso
   unfold World.cell? at h
   rw [Array.getElem?_eq_none h1] at h
   cases h
structure Px (B:Nat) (w w':World):Prop where
 below:Below B w w'
 cell:∀ p v,w.cell? p=some v→¬ Sl v→w'.cell? p=some v
theorem Px.refl (B:Nat) (w:World):Px B w w:=⟨Below.refl _ _,fun _ _ h _=>h⟩
theorem Px.trans {B:Nat} {a b c:World} (h:Px B a b) (k:Px B b c):Px B a c:=⟨h.below.trans k.below,fun p v h1 h2=>k.cell p v (h.cell p v h1 h2) h2⟩
theorem Px.ab' {B:Nat} {a b:World} (hB:B≤a.heap.size) (h:Ext a b):Px B a b:=⟨Below.mono h hB,fun p v h1 _=>(h.cell (ND h1)).trans h1⟩
theorem Px.ext {B:Nat} {a b c:World} (h:Px B a b) (hB:B≤a.heap.size) (k:Ext b c):Px B a c:=h.trans (Px.ab' (Nat.le_trans hB h.below.size) k)
theorem Px.size {B:Nat} {a b:World} (h:Px B a b):a.heap.size≤b.heap.size:=h.below.size
theorem Px.mono {B C:Nat} {a b:World} (h:Px B a b) (hC:C≤B):Px C a b:=⟨Below.mono h.below hC,h.cell⟩
structure Rw (B:Nat) (w:World) (g n cap:Nat) (es:List Value):Prop where
 lo:B≤g
 caps:n≤cap∧cap≤maxLen
 len:es.length=n
 row:∃ cur:Array Value,w.heap[g]?=some (.cells cur 22 (0,0))∧cur.size=cap∧cur.toList.take n=es∧∀ u∈cur.toList,Sl u
theorem Rw.lt {B:Nat} {w:World} {g n cap:Nat} {es:List Value} (h:Rw B w g n cap es):g<w.heap.size:=by
 obtain ⟨cur,h1,_⟩:=h.row
 exact (Array.getElem?_eq_some_iff.1 h1).1
theorem Rw.cell {B:Nat} {w:World} {g n cap:Nat} {es:List Value} (h:Rw B w g n cap es) {j:Nat} (hj:j<n):w.cell? ⟨g,j,none⟩=es[j]?:=by
 obtain ⟨cur,h1,h2,h3,h4⟩:=h.row
 rw [cell_of_row w g j _ _ _ h1,← h3,List.getElem?_take_of_lt hj,Array.getElem?_toList]
theorem Rw.of {B:Nat} {w w':World} {g n cap:Nat} {es:List Value} (h:Rw B w g n cap es) (e:w'.heap[g]?=w.heap[g]?):Rw B w' g n cap es:=by
 obtain ⟨cur,h1,h2⟩:=h.row
 exact ⟨h.lo,h.caps,h.len,cur,e.trans h1,h2⟩
theorem Rw.ext {B:Nat} {w w':World} {g n cap:Nat} {es:List Value} (h:Rw B w g n cap es) (k:Ext w w'):Rw B w' g n cap es:=h.of (k.block g h.lt)
theorem Rw.sl {B:Nat} {w:World} {g n cap:Nat} {es:List Value} (h:Rw B w g n cap es) {p:Addr} (hp:p.block=g) {v:Value} (hv:w.cell? p=some v):Sl v:=by
 obtain ⟨cur,h1,h2,h3,h4⟩:=h.row
 unfold World.cell? at hv
 rw [hp,h1] at hv
 simp only at hv
 split at hv
 · cases hv
 · exact h4 v (Array.mem_toList_iff.2 (Array.mem_of_getElem? hv))
theorem Rw.new (B:Nat) (w:World) (e:Value) (he:Sl e) (hB:B≤w.heap.size):Rw B (w.alloc (.cells #[e] 22)) w.heap.size 1 1 [e] :=
 ⟨hB,⟨Nat.le_refl _,by unfold maxLen;omega⟩,rfl,#[e],heap_alloc_new w _,rfl,rfl,fun u hu=>by simp at hu;subst hu;exact he⟩
end Go.Proofs.YtdpmbgomcjnohaaGreatDoor
/- The powers of a base that are kept. -/
namespace Go.Proofs.YtdpmbgomcjnohaaGreatDoor
open Go.RowKit
set_option linter.unusedVariables false
set_option maxHeartbeats 400000
attribute [local go_sem ↓] kV
attribute [local go_sem] fQ
structure Kp (B b n:Nat) (w:World) (Bk K:Nat):Prop where
 lo:B≤Bk
 fr:w.frozen? ⟨Bk,0,none⟩=false
 k1:1≤K∧K≤1000
 row:∃ g cap es,w.cell? ⟨Bk,0,none⟩=some (.slice (some ⟨g,0,none⟩) K cap)∧Rw B w g K cap es∧g≠Bk∧∀ i,i<K→∃ e,es[i]?=some e∧Un w e (kp b n i)
theorem Kp.lt {B b n:Nat} {w:World} {Bk K:Nat} (h:Kp B b n w Bk K):Bk<w.heap.size:=by
 obtain ⟨g,cap,es,h1,_⟩:=h.row
 exact ND h1
theorem Kp.ext {B b n:Nat} {w w':World} {Bk K:Nat} (h:Kp B b n w Bk K) (k:Ext w w'):Kp B b n w' Bk K:=by
 have hlt:=h.lt
 obtain ⟨g,cap,es,h1,h2,h3,h4⟩:=h.row
 have hb:w'.heap[Bk]?=w.heap[Bk]?:=k.block Bk hlt
 refine ⟨h.lo,(World.frozen?_of_block (a:=⟨Bk,0,none⟩) hb).trans h.fr,h.k1,g,cap,es,(World.cell?_of_block (a:=⟨Bk,0,none⟩) hb).trans h1,h2.ext k,h3,fun i hi=>?_⟩
 obtain ⟨e,h5,h6⟩:=h4 i hi
 exact ⟨e,h5,h6.below k⟩
end Go.Proofs.YtdpmbgomcjnohaaGreatDoor
/- A row of digits is split at a power. -/
namespace Go.Proofs.YtdpmbgomcjnohaaGreatDoor
open Go.RowKit
set_option linter.unusedVariables false
set_option maxHeartbeats 400000
theorem By.int {T:TypeId} {w:World} {g:Nat} {o:List Nat} (h:By T w g o) {p:Addr} (hp:p.block=g) {v:Value} (hv:w.cell? p=some v):∃ x:Nat,v = .int .u8 (x:Nat):=by
 unfold By at h
 unfold World.cell? at hv
 rw [hp,h] at hv
 simp only at hv
 split at hv
 · cases hv
 · have:=Array.mem_of_getElem? hv
   have h2:=Array.mem_toList_iff.2 this
   simp only [Bv] at h2
   obtain ⟨z,_,rfl⟩:=List.mem_map.1 h2
   exact ⟨z,rfl⟩
def Fb (w:World) (Q:Nat) (f:Value):Prop:=Q<w.heap.size∧w.cell? ⟨Q,0,none⟩=some f
theorem Fb.ext {w w':World} {Q:Nat} {f:Value} (h:Fb w Q f) (k:Ext w w'):Fb w' Q f:=⟨Nat.lt_of_lt_of_le h.1 k.size,(k.cell (p:=⟨Q,0,none⟩) h.1).trans h.2⟩
theorem Fb.but {w w':World} {Q g:Nat} {f:Value} (h:Fb w Q f) (k:But g w w') (hne:Q≠g):Fb w' Q f:=⟨Nat.lt_of_lt_of_le h.1 k.size,(k.cell (p:=⟨Q,0,none⟩) h.1 hne).trans h.2⟩
end Go.Proofs.YtdpmbgomcjnohaaGreatDoor
/- Digits are read chunk by chunk: plain mathematics. -/
namespace Go.Proofs.YtdpmbgomcjnohaaGreatDoor
set_option linter.unusedVariables false
set_option maxHeartbeats 400000
theorem MC (L n k:Nat) (hn:1≤n) (hL:1≤L) (hk:(L-1)%n+1=k):k≤n∧k≤L∧(L-k)%n=0:=by
 have h1:=Nat.mod_lt (L-1) (show n>0 by omega)
 have h2:=Nat.mod_le (L-1) n
 have h3:=Nat.div_add_mod (L-1) n
 have h4:L-k=n*((L-1)/n):=by omega
 exact ⟨by omega,by omega,by rw [h4];exact Nat.mul_mod_right _ _⟩
theorem RQ (L n k:Nat) (hn:1≤n) (hL:1≤L) (h0:L%n=0) (hk:(L-1)%n+1=k):k=n:=by
 obtain ⟨h1,h2,h3⟩:=MC L n k hn hL hk
 have a1:=Nat.div_add_mod L n
 have a2:=Nat.div_add_mod (L-k) n
 rw [h0] at a1
 rw [h3] at a2
 have e:n*(L/n)=n*((L-k)/n)+k:=by omega
 have e2:n*(L/n)-n*((L-k)/n)=k:=by omega
 rw [← Nat.mul_sub] at e2
 have hk0:1≤k:=by omega
 rcases Nat.eq_zero_or_pos (L/n-(L-k)/n) with h | h
 · rw [h,Nat.mul_zero] at e2;omega
 · have:=Nat.mul_le_mul_left n h
   rw [Nat.mul_one] at this
   omega
structure RdI (b n:Nat) (ds:List Nat) (i a:Nat):Prop where
 le:i≤ds.length
 val:a=Jq b (ds.take i)
 at_:i=0∨(ds.length-i)%n=0
theorem RdI.step {b n:Nat} {ds:List Nat} {i a:Nat} (h:RdI b n ds i a) (hn:1≤n) (hi:i<ds.length) (k:Nat) (hk:(ds.length-i-1)%n+1=k) :
  k≤n∧i+k≤ds.length∧RdI b n ds (i+k) (a*b^n+Jq b ((ds.drop i).take k)):=by
 obtain ⟨h1,h2,h3⟩:=MC (ds.length-i) n k hn (by omega) hk
 refine ⟨h1,by omega,by omega,?_,.inr (by rw [show ds.length-(i+k)=ds.length-i-k by omega];exact h3)⟩
 have e:ds.take (i+k)=ds.take i++(ds.drop i).take k:=List.take_add
 rw [e,Pd,h.val]
 have hl:((ds.drop i).take k).length=k:=by rw [List.length_take,List.length_drop];omega
 rw [hl]
 rcases h.at_ with h0 | h0
 · subst h0
   rw [List.take_zero,W9,Nat.zero_mul,Nat.zero_mul]
 · rw [RQ (ds.length-i) n k hn (by omega) h0 hk]
theorem RdI.done {b n:Nat} {ds:List Nat} {a:Nat} (h:RdI b n ds ds.length a):a=Jq b ds:=by
 rw [h.val,List.take_length]
end Go.Proofs.YtdpmbgomcjnohaaGreatDoor
/- The digits of a natural: the program's Text. -/
namespace Go.Proofs.YtdpmbgomcjnohaaGreatDoor
open Go.RowKit
set_option linter.unusedVariables false
set_option maxHeartbeats 400000
theorem By.made {w1:World} {base g n:Nat} (h:w1.ownsRow base 5 1 (.slice (some ⟨g,0,none⟩) n n) n (madeCells (Value.int .u8 0).cells (n*1)).toList):By 5 w1 g (List.replicate n 0):=by
 have hm:(madeCells (Value.int .u8 0).cells (n*1)).toList=List.replicate n (Value.int .u8 0):=by
  rw [Nat.mul_one];exact toList_madeCells_one _ _
 rw [hm] at h
 rcases h.2 with ⟨e,_⟩ | ⟨g2,cap,cur,e,hbg,hg,hnc,hcm,hcs,htake⟩
 · cases e
 · injection e with e1 e2 e3
   injection e1 with e1
   injection e1 with e1
   subst e1
   subst e3
   have aer:cur=(Bv (List.replicate n 0)).toArray:=by
    apply Array.toList_inj.1
    have:cur.toList.take (n*1)=cur.toList:=List.take_of_length_le (by rw [Array.length_toList];omega)
    rw [← this,htake]
    simp [Bv]
   unfold By
   rw [hg,aer]
end Go.Proofs.YtdpmbgomcjnohaaGreatDoor
/- How many digits: the program's Count. -/
namespace Go.Proofs.YtdpmbgomcjnohaaGreatDoor
open Go.RowKit
set_option linter.unusedVariables false
set_option maxHeartbeats 400000
structure CtI (b n a0 k a N:Nat):Prop where
 lt:a<kp b n k
 len:(nd b a0).length=N+(nd b a).length
 nz:a=0→a0=0
 le:a≤a0
theorem CtI.done {b n a0 a N:Nat} (h:CtI b n a0 0 a N) (hb:2≤b) (m:Nat) (hm:(if (nd b a).length<1 then 1 else (nd b a).length)=m):(dt b a0).length=N+m:=by
 have hl:=h.len
 by_cases ha:a=0
 · have h0:=h.nz ha
   subst ha
   subst h0
   rw [aan] at hm hl
   rw [aao]
   simp at hm hl
   simp
   omega
 · have h0:a0≠0:=fun e=>ha (by have:=h.le;omega)
   rw [ad6 h0,hl]
   have:1≤(nd b a).length:=by
    have:=agD ha hb
    cases e:nd b a with
    | nil=>exact absurd e this
    | cons x xs=>simp
   rw [if_neg (by omega)] at hm
   omega
end Go.Proofs.YtdpmbgomcjnohaaGreatDoor
/- The document's over: a natural over a small number. -/
namespace Go.Proofs.YtdpmbgomcjnohaaGreatDoor
open Go.RowKit
set_option linter.unusedVariables false
set_option maxHeartbeats 400000
structure OvI (xs:List Nat) (m k:Nat) (o:List Nat) (rs:Nat):Prop where
 len:o.length=xs.length
 lt:∀ x∈o,x<4294967296
 rest:rs<m
 val:val (xs.drop k)=m*val (o.drop k)+rs
theorem OvI.step {xs:List Nat} {m j:Nat} {o:List Nat} {rs:Nat} (h:OvI xs m (j+1) o rs) (hj:j<xs.length) (x n q r:Nat) (hx:lb xs j=x) (hxb:x<4294967296) (hn:4294967296*rs+x=n) (hq:n/m=q) (hr:n%m=r) :
  q<4294967296∧OvI xs m j (o.set j q) r:=by
 have hm:0<m:=Nat.lt_of_le_of_lt (Nat.zero_le _) h.rest
 have hq1:q<4294967296:=by
  rw [← hq]
  refine Nat.div_lt_of_lt_mul ?_
  have h1:4294967296*(rs+1)≤4294967296*m:=Nat.mul_le_mul_left _ h.rest
  rw [Nat.mul_comm m]
  omega
 refine ⟨hq1,by rw [List.length_set];exact h.len,lT h.lt hq1,by rw [← hr];exact Nat.mod_lt _ hm,?_⟩
 have hjo:j<(o.set j q).length:=by rw [List.length_set,h.len];exact hj
 rw [vD xs j hj,hx,h.val,vD (o.set j q) j hjo,wu q (by rw [h.len];exact hj),List.drop_set_of_lt (by omega)]
 have e:m*q+r=n:=by rw [← hq,← hr];exact Nat.div_add_mod n m
 generalize Proofs.YtdpmbgomcjnohaaGreatDoor.val (o.drop (j+1))=V
 have e2:m*(4294967296*V)=4294967296*(m*V):=Nat.mul_left_comm _ _ _
 generalize m*V=mV at *
 first
  | (rw [Nat.mul_add m,e2];omega)
  | (rw [Nat.add_comm q,Nat.mul_add m,e2];omega)
theorem OvI.done {xs:List Nat} {m:Nat} {o:List Nat} {rs a:Nat} (h:OvI xs m 0 o rs) (ha:Proofs.YtdpmbgomcjnohaaGreatDoor.val xs=a):Proofs.YtdpmbgomcjnohaaGreatDoor.val o=a/m∧rs=a%m:=by
 have h1:=h.val
 rw [List.drop_zero,List.drop_zero,ha] at h1
 have hm:0<m:=Nat.lt_of_le_of_lt (Nat.zero_le _) h.rest
 constructor
 · rw [h1,Nat.mul_add_div hm,Nat.div_eq_of_lt h.rest,Nat.add_zero]
 · rw [h1,Nat.mul_add_mod,Nat.mod_eq_of_lt h.rest]
end Go.Proofs.YtdpmbgomcjnohaaGreatDoor
/- The document's Step: a natural times a small number, and another one. -/
namespace Go.Proofs.YtdpmbgomcjnohaaGreatDoor
open Go.RowKit
set_option linter.unusedVariables false
set_option maxHeartbeats 400000
attribute [local go_sem ↓] kV
attribute [local go_sem] fQ
structure StI (xs:List Nat) (m d i:Nat) (o:List Nat) (rs:Nat):Prop where
 len:o.length=i
 lt:∀ x∈o,x<4294967296
 val:Proofs.YtdpmbgomcjnohaaGreatDoor.val o+rs*4294967296^i=Proofs.YtdpmbgomcjnohaaGreatDoor.val (xs.take i)*m+d
theorem StI.step {xs:List Nat} {m d i:Nat} {o:List Nat} {rs:Nat} (h:StI xs m d i o rs) (hi:i<xs.length) (x n q r:Nat) (hx:lb xs i=x) (hn:x*m+rs=n) (hq:n/4294967296=q) (hr:n%4294967296=r) :
  StI xs m d (i+1) (o++[r]) q:=by
 refine ⟨by rw [List.length_append,h.len];rfl,tN h.lt (by rw [← hr];exact Nat.mod_lt _ (by decide)),?_⟩
 rw [DC,h.len,mM xs i hi,hx,Nat.add_mul,Nat.pow_succ]
 have hv:=h.val
 have e:4294967296*q+r=n:=by rw [← hq,← hr];exact Nat.div_add_mod n 4294967296
 generalize 4294967296^i=P at *
 have e1:q*(P*4294967296)=(4294967296*q)*P:=by rw [Nat.mul_comm P,← Nat.mul_assoc,Nat.mul_comm q]
 have e2:x*P*m=x*m*P:=Nat.mul_right_comm _ _ _
 rw [e1,e2]
 have e3:(4294967296*q)*P+r*P=n*P:=by rw [← Nat.add_mul,e]
 have e4:n*P=x*m*P+rs*P:=by rw [← hn,Nat.add_mul]
 omega
theorem StI.done {xs:List Nat} {m d L:Nat} {o:List Nat} {rs a:Nat} (h:StI xs m d L o rs) (hL:xs.length=L) (ha:Proofs.YtdpmbgomcjnohaaGreatDoor.val xs=a):Proofs.YtdpmbgomcjnohaaGreatDoor.val (o++[rs])=a*m+d:=by
 rw [DC,h.len,h.val,List.take_of_length_le (by omega),ha]
end Go.Proofs.YtdpmbgomcjnohaaGreatDoor
/- Rows of bytes that grow; what is kept meanwhile. -/
namespace Go.Proofs.YtdpmbgomcjnohaaGreatDoor
open Go.RowKit
set_option linter.unusedVariables false
set_option maxHeartbeats 400000
def I8 (u:Value):Prop:=∃ x:Nat,u = .int .u8 (x:Nat)
theorem I8.one {u:Value} (h:I8 u):u.oneCell'=true:=by obtain ⟨x,rfl⟩:=h;rfl
structure Key (B:Nat) (w w':World):Prop where
 below:Below B w w'
 cell:∀ p v,w.cell? p=some v→¬ I8 v→w'.cell? p=some v
theorem Key.refl (B:Nat) (w:World):Key B w w:=⟨Below.refl _ _,fun _ _ h _=>h⟩
theorem Key.trans {B:Nat} {a b c:World} (h:Key B a b) (k:Key B b c):Key B a c:=⟨h.below.trans k.below,fun p v h1 h2=>k.cell p v (h.cell p v h1 h2) h2⟩
theorem Key.ab' {B:Nat} {a b:World} (hB:B≤a.heap.size) (h:Ext a b):Key B a b:=⟨Below.mono h hB,fun p v h1 _=>(h.cell (ND h1)).trans h1⟩
theorem Key.size {B:Nat} {a b:World} (h:Key B a b):a.heap.size≤b.heap.size:=h.below.size
theorem U.key {B:Nat} {w w':World} {v:Value} {xs:List Nat} (h:U w v xs) (k:Key B w w'):U w' v xs:=by
 obtain ⟨A,c,rfl,hc,hx,hr⟩:=h
 refine ⟨A,c,rfl,hc,hx,fun h0=>?_⟩
 obtain ⟨ad,hA,hb,hcell⟩:=hr h0
 exact ⟨ad,hA,Nat.lt_of_lt_of_le hb k.size,fun j hj=>k.cell _ _ (hcell j hj) (by rintro ⟨x,e⟩;cases e)⟩
theorem Un.key {B:Nat} {w w':World} {v:Value} {n:Nat} (h:Un w v n) (k:Key B w w'):Un w' v n:=U.key h k
structure Ry (B:Nat) (w:World) (g n cap:Nat) (es:List Value):Prop where
 lo:B≤g
 caps:n≤cap∧cap≤maxLen
 len:es.length=n
 row:∃ cur:Array Value,w.heap[g]?=some (.cells cur 5 (0,0))∧cur.size=cap∧cur.toList.take n=es∧∀ u∈cur.toList,I8 u
theorem Ry.lt {B:Nat} {w:World} {g n cap:Nat} {es:List Value} (h:Ry B w g n cap es):g<w.heap.size:=by
 obtain ⟨cur,h1,_⟩:=h.row
 exact (Array.getElem?_eq_some_iff.1 h1).1
theorem Ry.cell {B:Nat} {w:World} {g n cap:Nat} {es:List Value} (h:Ry B w g n cap es) {j:Nat} (hj:j<n):w.cell? ⟨g,j,none⟩=es[j]?:=by
 obtain ⟨cur,h1,h2,h3,h4⟩:=h.row
 rw [cell_of_row w g j _ _ _ h1,← h3,List.getElem?_take_of_lt hj,Array.getElem?_toList]
theorem Ry.of {B:Nat} {w w':World} {g n cap:Nat} {es:List Value} (h:Ry B w g n cap es) (e:w'.heap[g]?=w.heap[g]?):Ry B w' g n cap es:=by
 obtain ⟨cur,h1,h2⟩:=h.row
 exact ⟨h.lo,h.caps,h.len,cur,e.trans h1,h2⟩
theorem Ry.ext {B:Nat} {w w':World} {g n cap:Nat} {es:List Value} (h:Ry B w g n cap es) (k:Ext w w'):Ry B w' g n cap es:=h.of (k.block g h.lt)
theorem Ry.new (B:Nat) (w:World) (hB:B≤w.heap.size):Ry B (w.alloc (.cells #[] 5)) w.heap.size 0 0 [] :=
 ⟨hB,⟨Nat.le_refl _,by unfold maxLen;omega⟩,rfl,#[],heap_alloc_new w _,rfl,rfl,fun u hu=>by simp at hu⟩
theorem Ry.but {B:Nat} {w:World} {g n cap:Nat} {es:List Value} (h:Ry B w g n cap es) (j:Nat) (v:Value):Below B w (w.setCell ⟨g,j,none⟩ v) :=
 ⟨rfl,rfl,rfl,by simp [World.setCell],fun k hk=>heap_setCell_other w ⟨g,j,none⟩ k v (by have:=h.lo;show k≠g;omega)⟩
end Go.Proofs.YtdpmbgomcjnohaaGreatDoor
/- The document's Text and Count. -/
namespace Go.Proofs.YtdpmbgomcjnohaaGreatDoor
open Go.RowKit
set_option linter.unusedVariables false
set_option maxHeartbeats 400000
attribute [local go_sem ↓] kV
attribute [local go_sem] fQ
structure TxI (b a0 a:Nat) (ds:List Nat):Prop where
 spl:nd b a0=nd b a++ds.reverse
 lt:∀ d∈ds,d<b
theorem TxI.step {b a0 a:Nat} {ds:List Nat} (h:TxI b a0 a ds) (hb:2≤b) (ha:a≠0) (q r:Nat) (hq:a/b=q) (hr:a%b=r):r<b∧ds.length<(nd b a0).length∧TxI b a0 q (ds++[r]):=by
 have hrb:r<b:=by rw [← hr];exact Nat.mod_lt _ (by omega)
 have e:=Xa ha hb
 refine ⟨hrb,?_,?_,fun d hd=>?_⟩
 · rw [h.spl,List.length_append,List.length_reverse,e,List.length_append]
   simp
 · rw [h.spl,e,hq,hr,List.reverse_append]
   simp
 · rcases List.mem_append.1 hd with h1 | h1
   · exact h.lt d h1
   · simp at h1;omega
structure RvI (l:List Nat) (i:Nat) (o:List Nat):Prop where
 len:o.length=l.length
 at_:∀ j,j<l.length→lb o j=if j<i∨l.length-1-j<i then lb l (l.length-1-j) else lb l j
theorem RvI.step {l:List Nat} {i:Nat} {o:List Nat} (h:RvI l i o) (hi:i<l.length/2) (x y n:Nat) (hn:l.length=n) (hx:lb o i=x) (hy:lb o (n-1-i)=y):RvI l (i+1) ((o.set i y).set (n-1-i) x):=by
 subst hn
 have h1:=h.at_ i (by omega)
 have h2:=h.at_ (l.length-1-i) (by omega)
 rw [if_neg (by omega),hx] at h1
 rw [if_neg (by omega),hy] at h2
 refine ⟨by rw [List.length_set,List.length_set];exact h.len,fun j hj=>?_⟩
 rw [rH _ _ _ _ (by rw [List.length_set,h.len];omega),rH _ _ _ _ (by rw [h.len];omega)]
 by_cases e1:l.length-1-i=j
 · rw [if_pos e1,if_pos (by omega),h1]
   congr 1;omega
 · rw [if_neg e1]
   by_cases e2:i=j
   · rw [if_pos e2,if_pos (by omega),h2]
     congr 1;omega
   · rw [if_neg e2,h.at_ j hj]
     by_cases c:j<i∨l.length-1-j<i
     · rw [if_pos c,if_pos (by omega)]
     · rw [if_neg c,if_neg (by omega)]
theorem RvI.done {l:List Nat} {i:Nat} {o:List Nat} (h:RvI l i o) (hi:l.length/2=i):o=l.reverse:=by
 refine yl (by rw [h.len,List.length_reverse]) fun j hj=>?_
 have hj2:j<l.length:=by rw [← h.len];exact hj
 have e:lb l.reverse j=lb l (l.length-1-j):=by
  unfold lb
  rw [List.getElem?_reverse hj2]
 rw [h.at_ j hj2,e]
 by_cases c:j<i∨l.length-1-j<i
 · rw [if_pos c]
 · rw [if_neg c]
   congr 1;omega
end Go.Proofs.YtdpmbgomcjnohaaGreatDoor
/- The document's Count, Digits, Bare. -/
namespace Go.Proofs.YtdpmbgomcjnohaaGreatDoor
open Go.RowKit
set_option linter.unusedVariables false
set_option maxHeartbeats 400000
attribute [local go_sem ↓] kV
attribute [local go_sem] fQ
def mk (S:ByteArray) (b:Nat):List Nat:=S.data.toList.map fun c=>c.toNat%b
end Go.Proofs.YtdpmbgomcjnohaaGreatDoor
/- The document: sums, products, order of dyadic numbers. -/
namespace Go.Proofs.YtdpmbgomcjnohaaGreatDoor
open Go.RowKit 
set_option linter.all false
set_option maxRecDepth 100000
set_option maxHeartbeats 8000000
def Cn (x:Rat):Prop:=∃ m e,Dy.dv m e=x
theorem Cn.den {x:Rat} (h:Cn x):∃ j:Nat,x.den=2^j:=by
 obtain ⟨m,e,rfl⟩:=h
 obtain ⟨j,hj,_⟩:=Dy.aet m e
 exact ⟨j,hj⟩
theorem Cn.mul {x y:Rat} (h:Cn x) (g:Cn y):Cn (x*y):=by
 obtain ⟨m,e,rfl⟩:=h
 obtain ⟨n,f,rfl⟩:=g
 exact ⟨m*n,e+f,Dy.M4 m n e f⟩
theorem Cn.add {x y:Rat} (h:Cn x) (g:Cn y):Cn (x+y):=by
 obtain ⟨m,e,rfl⟩:=h
 obtain ⟨n,f,rfl⟩:=g
 exact ⟨_,_,Dy.XO (g:=min e f) (by omega) (by omega)⟩
theorem Cn.neg {x:Rat} (h:Cn x):Cn (-x):=by
 obtain ⟨m,e,rfl⟩:=h
 exact ⟨-m,e,Dy.Kb m e⟩
theorem Cn.sub {x y:Rat} (h:Cn x) (g:Cn y):Cn (x-y):=by rw [Rat.sub_eq_add_neg];exact h.add g.neg
theorem Cn.pow (n:Int):Cn ((2:Rat)^n):=⟨1,n,Rat.one_mul _⟩
theorem Dd.Cn {m e lo hi:Int} {x:Rat} {L:Nat} (h:Dd m e x L lo hi):Cn x:=⟨m,e,h.val⟩
theorem dR (w:World) (va vb:Value) (x y:Rat) (L L2:Nat) (lo hi lo2 hi2:Int) (ha:Dn w va x L lo hi) (hb:Dn w vb y L2 lo2 hi2) (hL:L≤1000000) (hL2:L2≤1000000) :
  Calls Tryz.prog 17 #[va,vb] w fun e w'=>e = .returned (.bool (decide (x=y)))∧Pl.Ex w w':=by
 obtain ⟨ma,ea,Aa,ca,rfl,ua,da⟩:=ha
 have CF:=da.lo
 have CG:=da.hi
 obtain ⟨mb,eb,Ab,cb,rfl,ub,db⟩:=hb
 have Ob:=db.lo
 have Oc:=db.hi
 refine Pl.bL (n:=17) (vs:=[.agg #[.bool (decide (ma<0)),.slice Aa (limbs (Int.natAbs ma)).length ca,.int .i64 ea],.agg #[.bool (decide (mb<0)),.slice Ab (limbs (Int.natAbs mb)).length cb,.int .i64 eb]]) Tryz.func17 rfl (by kernel_rfl) (by simp) ?_
 repeat refine Pl.ay ?_
 refine Pl.aB (by kernel_rfl) ?_
 refine Pl.dN (cs:=[.bool (decide (ma<0)),.slice Aa (limbs (Int.natAbs ma)).length ca,.int .i64 ea]) rfl rfl rfl rfl rfl rfl (fun Y hY=>trivial) ?_
 intro N1 w1 hE1 eP aC
 have ig:=Pl.Cb.lt aC
 have mH:=Pl.Ex.size hE1
 refine Pl.dN (cs:=[.bool (decide (mb<0)),.slice Ab (limbs (Int.natAbs mb)).length cb,.int .i64 eb]) rfl rfl rfl rfl rfl rfl (fun Y hY=>trivial) ?_
 intro N2 w2 hE2 gD aD
 have iB:=Pl.Cb.lt aD
 have mY:=Pl.Ex.size hE2
 refine Pl.aG trivial rfl ?_
 refine Pl.af ?_
 repeat refine Pl.ay ?_
 refine Pl.aB (by kernel_rfl) ?_
 refine Pl.bC (.pointer (some ⟨N1,2,none⟩)) trivial rfl rfl rfl rfl (fun X=>by kernel_rfl) ?_
 refine Pl.eT (v:=.int .i64 ea) Tryz.underlying3 rfl (Pl.Cb.at (j:=2) (Pl.Cb.ex aC hE2) rfl) trivial rfl rfl rfl rfl rfl ?_
 refine Pl.bC (.pointer (some ⟨N2,2,none⟩)) trivial rfl rfl rfl rfl (fun X=>by kernel_rfl) ?_
 refine Pl.eT (v:=.int .i64 eb) Tryz.underlying3 rfl (Pl.Cb.at (j:=2) aD rfl) trivial rfl rfl rfl rfl rfl ?_
 by_cases c3:ea=eb
 · refine Pl.dO (v:=.bool true) (fun X=>nN c3 X) trivial rfl rfl rfl rfl rfl rfl ?_
   refine Pl.aG trivial rfl ?_
   refine Pl.bC (.pointer (some ⟨N1,0,none⟩)) trivial rfl rfl rfl rfl (fun X=>by kernel_rfl) ?_
   refine Pl.dJ (part:=[.bool (decide (ma<0)),.slice Aa (limbs (Int.natAbs ma)).length ca]) (Pl.Cb.ex aC hE2) rfl Tryz.underlying24 rfl (by kernel_rfl) trivial rfl rfl rfl rfl rfl ?_
   refine Pl.bC (.pointer (some ⟨N2,0,none⟩)) trivial rfl rfl rfl rfl (fun X=>by kernel_rfl) ?_
   refine Pl.dJ (part:=[.bool (decide (mb<0)),.slice Ab (limbs (Int.natAbs mb)).length cb]) aD rfl Tryz.underlying24 rfl (by kernel_rfl) trivial rfl rfl rfl rfl rfl ?_
   by_cases c4:ma=mb
   · refine Pl.ah rfl rfl rfl rfl rfl (fun u X=>Pl.enters Tryz.func43 (by kernel_rfl) rfl u X) ?_
     refine Calls.mono (EO _ _ _ ma mb (Zn.of (Un.below ua (Pl.Ex.trans hE1 hE2))) (Zn.of (Un.below ub (Pl.Ex.trans hE1 hE2))) (Sz.le da.sz (by omega)) (Sz.le db.sz (by omega)) true (decide_eq_true c4)) ?_
     rintro e w3 ⟨rfl,aO⟩
     have mZ:=Pl.Ex.size aO
     refine ⟨_,rfl,trivial,?_⟩
     refine Pl.aG trivial rfl ?_
     refine Pl.af ?_
     repeat refine Pl.ay ?_
     exact Pl.dU rfl rfl  (⟨by rw [decide_eq_true (show x=y by rw [← da.val,← db.val,c4,c3])],(Pl.Ex.trans hE1 (Pl.Ex.trans hE2 aO))⟩)
   · refine Pl.ah rfl rfl rfl rfl rfl (fun u X=>Pl.enters Tryz.func43 (by kernel_rfl) rfl u X) ?_
     refine Calls.mono (EO _ _ _ ma mb (Zn.of (Un.below ua (Pl.Ex.trans hE1 hE2))) (Zn.of (Un.below ub (Pl.Ex.trans hE1 hE2))) (Sz.le da.sz (by omega)) (Sz.le db.sz (by omega)) false (decide_eq_false c4)) ?_
     rintro e w3 ⟨rfl,aO⟩
     have mZ:=Pl.Ex.size aO
     refine ⟨_,rfl,trivial,?_⟩
     refine Pl.aG trivial rfl ?_
     refine Pl.af ?_
     repeat refine Pl.ay ?_
     exact Pl.dU rfl rfl  (⟨by rw [decide_eq_false (fun h9=>c4 (Dy.Pz da.can db.can (by rw [da.val,db.val,h9])).1)],(Pl.Ex.trans hE1 (Pl.Ex.trans hE2 aO))⟩)
 · refine Pl.dO (v:=.bool false) (fun X=>vE c3 X) trivial rfl rfl rfl rfl rfl rfl ?_
   refine Pl.aG trivial rfl ?_
   refine Pl.af ?_
   repeat refine Pl.ay ?_
   exact Pl.dU rfl rfl  (⟨by rw [decide_eq_false (fun h9=>c3 (Dy.Pz da.can db.can (by rw [da.val,db.val,h9])).2)],(Pl.Ex.trans hE1 hE2)⟩)
end Go.Proofs.YtdpmbgomcjnohaaGreatDoor
/- The document: rounded to whole numbers. -/
namespace Go.Proofs.YtdpmbgomcjnohaaGreatDoor
open Go.RowKit 
set_option linter.all false
set_option maxRecDepth 100000
set_option maxHeartbeats 8000000
theorem j4 {v:Rat} {j:Nat} {z:Int} (h:j=4) (g:Dy.BX 4 v=z):Dy.BX j v=z:=by rw [h];exact g
end Go.Proofs.YtdpmbgomcjnohaaGreatDoor
/- Numbers made right, and which are. -/
namespace Go.Proofs.YtdpmbgomcjnohaaGreatDoor
open Go.RowKit 
set_option linter.all false
set_option maxRecDepth 100000
set_option maxHeartbeats 8000000
theorem C8 {z:Int} (h:Sz z 65536):(jK (limbs z.natAbs)&&!(decide (z<0)&&decide ((limbs z.natAbs).length=0)))=true:=by
 have h1:(limbs z.natAbs).length≤65536:=h
 have h2:=@oO z.natAbs
 rw [Bool.and_eq_true]
 refine ⟨?_,?_⟩
 · unfold jK
   rw [decide_eq_true h1,Bool.true_and,Bool.or_eq_true]
   by_cases h0:z.natAbs=0
   · left;rw [h0,fI];rfl
   · right;rw [bne_iff_ne];exact K8 h0
 · by_cases h3:z<0
   · rw [decide_eq_false (p:=(limbs z.natAbs).length=0) (fun h9=>by have:=h2.1 h9;omega),Bool.and_false];rfl
   · rw [decide_eq_false h3];rfl
theorem rq (w:World) (A:Option Addr) (c:Nat) (z ee:Int) (u:Un w (.slice A (limbs z.natAbs).length c) z.natAbs) (lz:Sz z 65536) :
  Calls Tryz.prog 13 #[.agg #[.bool (decide (z<0)),.slice A (limbs z.natAbs).length c,.int .i64 ee]] w fun e w'=>e = .returned (.bool (decide ((z=0∧ee=0∨z%2=1) ∧ -100000≤ee∧ee≤100000)))∧Pl.Ex w w':=by
 refine Pl.bL (n:=31) (vs:=[.agg #[.bool (decide (z<0)),.slice A (limbs (Int.natAbs z)).length c,.int .i64 ee]]) Tryz.func13 rfl (by kernel_rfl) (by simp) ?_
 repeat refine Pl.ay ?_
 refine Pl.aB (by kernel_rfl) ?_
 refine Pl.dN (cs:=[.bool (decide (z<0)),.slice A (limbs (Int.natAbs z)).length c,.int .i64 ee]) rfl rfl rfl rfl rfl rfl (fun Y hY=>trivial) ?_
 intro N1 w1 hE1 eP aC
 have ig:=Pl.Cb.lt aC
 have mH:=Pl.Ex.size hE1
 refine Pl.aG trivial rfl ?_
 refine Pl.af ?_
 repeat refine Pl.ay ?_
 refine Pl.aB (by kernel_rfl) ?_
 refine Pl.bC (.pointer (some ⟨N1,0,none⟩)) trivial rfl rfl rfl rfl (fun X=>by kernel_rfl) ?_
 refine Pl.dJ (part:=[.bool (decide (z<0)),.slice A (limbs (Int.natAbs z)).length c]) aC rfl Tryz.underlying24 rfl (by kernel_rfl) trivial rfl rfl rfl rfl rfl ?_
 refine Pl.ah rfl rfl rfl rfl rfl (fun u X=>Pl.enters Tryz.func59 (by kernel_rfl) rfl u X) ?_
 refine Calls.mono (WM _ _ _ _ (Zn.ri (Zn.of (Un.below u hE1))) true (C8 (Sz.le lz (by omega)))) ?_
 rintro e w2 ⟨rfl,hE2⟩
 have mY:=Pl.Ex.size hE2
 refine ⟨_,rfl,trivial,?_⟩
 refine Pl.mK (v:=.bool false) trivial rfl rfl rfl rfl rfl (fun X=>rfl) ?_
 refine Pl.aG trivial rfl ?_
 refine Pl.bC (.pointer (some ⟨N1,2,none⟩)) trivial rfl rfl rfl rfl (fun X=>by kernel_rfl) ?_
 refine Pl.eT (v:=.int .i64 ee) Tryz.underlying3 rfl (Pl.Cb.at (j:=2) (Pl.Cb.ex aC hE2) rfl) trivial rfl rfl rfl rfl rfl ?_
 by_cases c2:ee<(-100000)
 · refine Pl.dO (v:=.bool true) (fun X=>Bh c2 X) trivial rfl rfl rfl rfl rfl rfl ?_
   refine Pl.aG trivial rfl ?_
   refine Pl.af ?_
   repeat refine Pl.ay ?_
   refine Pl.iO rfl ?_
   repeat refine Pl.ay ?_
   refine Pl.aB (by kernel_rfl) ?_
   refine Pl.aG trivial rfl ?_
   refine Pl.af ?_
   repeat refine Pl.ay ?_
   exact Pl.dU rfl rfl  (⟨by rw [decide_eq_false (show ¬ ((z=0∧ee=0∨z%2=1) ∧ -100000≤ee∧ee≤100000) by have hl1:=@oO z.natAbs;omega)],(Pl.Ex.trans hE1 hE2)⟩)
 · refine Pl.dO (v:=.bool false) (fun X=>Bi c2 X) trivial rfl rfl rfl rfl rfl rfl ?_
   refine Pl.aG trivial rfl ?_
   refine Pl.bC (.pointer (some ⟨N1,2,none⟩)) trivial rfl rfl rfl rfl (fun X=>by kernel_rfl) ?_
   refine Pl.eT (v:=.int .i64 ee) Tryz.underlying3 rfl (Pl.Cb.at (j:=2) (Pl.Cb.ex aC hE2) rfl) trivial rfl rfl rfl rfl rfl ?_
   by_cases c3:ee>100000
   · refine Pl.dO (v:=.bool true) (fun X=>KG c3 X) trivial rfl rfl rfl rfl rfl rfl ?_
     refine Pl.aG trivial rfl ?_
     refine Pl.af ?_
     repeat refine Pl.ay ?_
     refine Pl.iO rfl ?_
     repeat refine Pl.ay ?_
     refine Pl.aB (by kernel_rfl) ?_
     refine Pl.aG trivial rfl ?_
     refine Pl.af ?_
     repeat refine Pl.ay ?_
     exact Pl.dU rfl rfl  (⟨by rw [decide_eq_false (show ¬ ((z=0∧ee=0∨z%2=1) ∧ -100000≤ee∧ee≤100000) by have hl1:=@oO z.natAbs;omega)],(Pl.Ex.trans hE1 hE2)⟩)
   · refine Pl.dO (v:=.bool false) (fun X=>PE c3 X) trivial rfl rfl rfl rfl rfl rfl ?_
     refine Pl.aG trivial rfl ?_
     refine Pl.af ?_
     repeat refine Pl.ay ?_
     refine Pl.gm rfl ?_
     repeat refine Pl.ay ?_
     refine Pl.iK ?_
     repeat refine Pl.ay ?_
     refine Pl.aB (by kernel_rfl) ?_
     refine Pl.bC (.pointer (some ⟨N1,0,none⟩)) trivial rfl rfl rfl rfl (fun X=>by kernel_rfl) ?_
     refine Pl.dJ (part:=[.bool (decide (z<0)),.slice A (limbs (Int.natAbs z)).length c]) (Pl.Cb.ex aC hE2) rfl Tryz.underlying24 rfl (by kernel_rfl) trivial rfl rfl rfl rfl rfl ?_
     refine Pl.ah rfl rfl rfl rfl rfl (fun u X=>Pl.enters Tryz.func60 (by kernel_rfl) rfl u X) ?_
     refine Calls.mono (KW _ _ z (Zn.of (Un.below u (Pl.Ex.trans hE1 hE2))) _ rfl) ?_
     rintro e w3 ⟨rfl,aO⟩
     obtain ⟨k4,qk4⟩:∃ z9,Int.sign z=z9:=⟨_,rfl⟩
     rw [qk4]
     have LK:=yx qk4
     have mZ:=Pl.Ex.size aO
     refine ⟨_,rfl,trivial,?_⟩
     by_cases c5:k4=0
     · refine Pl.dO (v:=.bool true) (fun X=>nN c5 X) trivial rfl rfl rfl rfl rfl rfl ?_
       refine Pl.af ?_
       repeat refine Pl.ay ?_
       refine Pl.iO rfl ?_
       repeat refine Pl.ay ?_
       refine Pl.aB (by kernel_rfl) ?_
       refine Pl.bC (.pointer (some ⟨N1,2,none⟩)) trivial rfl rfl rfl rfl (fun X=>by kernel_rfl) ?_
       refine Pl.eT (v:=.int .i64 ee) Tryz.underlying3 rfl (Pl.Cb.at (j:=2) (Pl.Cb.ex aC (Pl.Ex.trans hE2 aO)) rfl) trivial rfl rfl rfl rfl rfl ?_
       by_cases c6:ee=0
       · refine Pl.dO (v:=.bool true) (fun X=>nN c6 X) trivial rfl rfl rfl rfl rfl rfl ?_
         refine Pl.aG trivial rfl ?_
         refine Pl.af ?_
         repeat refine Pl.ay ?_
         exact Pl.dU rfl rfl  (⟨by rw [decide_eq_true (show (z=0∧ee=0∨z%2=1) ∧ -100000≤ee∧ee≤100000 by have hl1:=@oO z.natAbs;omega)],(Pl.Ex.trans hE1 (Pl.Ex.trans hE2 aO))⟩)
       · refine Pl.dO (v:=.bool false) (fun X=>vE c6 X) trivial rfl rfl rfl rfl rfl rfl ?_
         refine Pl.aG trivial rfl ?_
         refine Pl.af ?_
         repeat refine Pl.ay ?_
         exact Pl.dU rfl rfl  (⟨by rw [decide_eq_false (show ¬ ((z=0∧ee=0∨z%2=1) ∧ -100000≤ee∧ee≤100000) by have hl1:=@oO z.natAbs;omega)],(Pl.Ex.trans hE1 (Pl.Ex.trans hE2 aO))⟩)
     · refine Pl.dO (v:=.bool false) (fun X=>vE c5 X) trivial rfl rfl rfl rfl rfl rfl ?_
       refine Pl.af ?_
       repeat refine Pl.ay ?_
       refine Pl.gm rfl ?_
       repeat refine Pl.ay ?_
       refine Pl.iK ?_
       repeat refine Pl.ay ?_
       refine Pl.aB (by kernel_rfl) ?_
       refine Pl.bC (.pointer (some ⟨N1,0,none⟩)) trivial rfl rfl rfl rfl (fun X=>by kernel_rfl) ?_
       refine Pl.bC (.pointer (some ⟨N1,1,none⟩)) trivial rfl rfl rfl rfl (fun X=>by kernel_rfl) ?_
       refine Pl.eT (v:=.slice A (limbs (Int.natAbs z)).length c) Tryz.underlying22 rfl (Pl.Cb.at (j:=1) (Pl.Cb.ex aC (Pl.Ex.trans hE2 aO)) rfl) trivial rfl rfl rfl rfl rfl ?_
       have hl0:=@oO z.natAbs
       have hq0:z.natAbs≠0:=by omega
       obtain ⟨ad,hA1,hcell⟩:=J2 u (i:=0) (by omega)
       subst hA1
       refine Pl.J3 (s:=1) (j:=0) Tryz.underlying22 (by kernel_rfl) rfl (by omega) trivial rfl rfl rfl rfl rfl rfl ?_
       refine Pl.eT (v:=.int .u32 (((z.natAbs%4294967296):Nat):Int)) Tryz.underlying67 rfl (AY (Un.below u (Pl.Ex.trans hE1 (Pl.Ex.trans hE2 aO))) hq0) trivial rfl rfl rfl rfl rfl ?_
       refine Pl.dO (v:=.int .u32 (((z.natAbs%2):Nat):Int)) (fun X=>NF aha (by omega) (by decide) X) trivial rfl rfl rfl rfl rfl rfl ?_
       by_cases c6:(z.natAbs%2)=1
       · refine Pl.dO (v:=.bool true) (fun X=>Pl.gM (Pl.e_t (by omega)) X) trivial rfl rfl rfl rfl rfl rfl ?_
         refine Pl.aG trivial rfl ?_
         refine Pl.af ?_
         repeat refine Pl.ay ?_
         exact Pl.dU rfl rfl  (⟨by rw [decide_eq_true (show (z=0∧ee=0∨z%2=1) ∧ -100000≤ee∧ee≤100000 by have hl1:=@oO z.natAbs;omega)],(Pl.Ex.trans hE1 (Pl.Ex.trans hE2 aO))⟩)
       · refine Pl.dO (v:=.bool false) (fun X=>Pl.gM (Pl.e_f (by omega)) X) trivial rfl rfl rfl rfl rfl rfl ?_
         refine Pl.aG trivial rfl ?_
         refine Pl.af ?_
         repeat refine Pl.ay ?_
         exact Pl.dU rfl rfl  (⟨by rw [decide_eq_false (show ¬ ((z=0∧ee=0∨z%2=1) ∧ -100000≤ee∧ee≤100000) by have hl1:=@oO z.natAbs;omega)],(Pl.Ex.trans hE1 (Pl.Ex.trans hE2 aO))⟩)
end Go.Proofs.YtdpmbgomcjnohaaGreatDoor
