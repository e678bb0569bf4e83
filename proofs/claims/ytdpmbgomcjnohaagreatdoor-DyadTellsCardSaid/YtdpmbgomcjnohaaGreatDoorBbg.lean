/- Digits to a base, the highest first: plain lists and naturals. -/
import Derived.Test.YtdpmbgomcjnohaaGreatDoorBae
import Derived.Test.YtdpmbgomcjnohaaGreatDoorBag
import Derived.Test.YtdpmbgomcjnohaaGreatDoorBam
import Derived.Test.YtdpmbgomcjnohaaGreatDoorBap
import Derived.Test.YtdpmbgomcjnohaaGreatDoorBaj
import Derived.Test.YtdpmbgomcjnohaaGreatDoorBbf
import Derived.Test.YtdpmbgomcjnohaaGreatDoorBav
import Derived.Test.YtdpmbgomcjnohaaGreatDoorBaq
import Derived.Test.YtdpmbgomcjnohaaGreatDoorBar
import Derived.Test.YtdpmbgomcjnohaaGreatDoorBbd
import Derived.Lib.SlTrimSet
import Derived.Lib.Bytealg
import Derived.Laws.CopyOwn
import Derived.Deep.RegionLaw
import Derived.Maps.AppendAt
import Derived.Ground.NamesProg
import Derived.Shelf.Lay
import Derived.Shelf.Strings.SlTrimAscii
import Derived.Laws.IdiomStrings
import Derived.Laws.Concat
import Derived.Deep.RegionHeld3

namespace Go.Proofs.YtdpmbgomcjnohaaGreatDoor
set_option linter.unusedVariables false
set_option maxHeartbeats 400000
theorem Mm {P:List Nat→Prop} (h0:P []) (h1:∀ ds d,P ds→P (ds++[d])) (ds:List Nat):P ds:=by
 have:∀ l:List Nat,P l.reverse:=fun l=>by
  induction l with
  | nil=>exact h0
  | cons x l ih=>rw [List.reverse_cons];exact h1 _ _ ih
 have h:=this ds.reverse
 rwa [List.reverse_reverse] at h
def lD (b:Nat) (ds:List Nat):Nat:=ds.foldl (fun a d=>a*b+d) 0
theorem ND (b:Nat) (ds:List Nat) (a:Nat):ds.foldl (fun a d=>a*b+d) a=a*b^ds.length+lD b ds:=by
 induction ds generalizing a with
 | nil=>simp [lD]
 | cons d ds ih =>
  have e:lD b (d::ds)=(0*b+d)*b^ds.length+lD b ds:=ih (0*b+d)
  rw [List.foldl_cons,ih,e,List.length_cons,Nat.pow_succ,Nat.add_mul,Nat.zero_mul,Nat.zero_add,Nat.mul_assoc,Nat.mul_comm b (b^ds.length),Nat.add_assoc]
theorem Qs (b:Nat):lD b []=0:=rfl
theorem sU (b:Nat) (xs ys:List Nat):lD b (xs++ys)=lD b xs*b^ys.length+lD b ys:=by
 rw [lD,List.foldl_append,ND];rfl
theorem uk (b:Nat) (xs:List Nat) (d:Nat):lD b (xs++[d])=lD b xs*b+d:=by
 rw [sU];simp [lD]
theorem TY (b:Nat) (ds:List Nat) (h:∀ d∈ds,d<b):lD b ds<b^ds.length:=by
 revert h
 refine Mm (P:=fun ds=>(∀ d∈ds,d<b)→lD b ds<b^ds.length) (fun _=>by simp [lD]) (fun ds d ih h=>?_) ds
 · have h1:=ih fun x hx=>h x (by simp [hx])
   have h2:=h d (by simp)
   rw [uk,List.length_append,List.length_singleton,Nat.pow_succ]
   have h3:=Nat.mul_le_mul_right b (show lD b ds+1≤b^ds.length from h1)
   rw [Nat.add_mul,Nat.one_mul] at h3
   omega
theorem Kk (b k:Nat):lD b (List.replicate k 0)=0:=by
 induction k with
 | zero=>rfl
 | succ k ih=>rw [List.replicate_succ',uk,ih];simp
def gL (b n:Nat):Nat→List Nat
 | 0=>[]
 | k+1=>gL b (n/b) k++[n%b]
theorem jV (b n k:Nat):(gL b n k).length=k:=by
 induction k generalizing n with
 | zero=>rfl
 | succ k ih=>rw [gL,List.length_append,ih];rfl
theorem TZ (b n k:Nat) (hb:0<b):∀ d∈gL b n k,d<b:=by
 induction k generalizing n with
 | zero=>intro d h;simp [gL] at h
 | succ k ih =>
  intro d h
  rw [gL,List.mem_append] at h
  rcases h with h | h
  · exact ih _ d h
  · simp at h;rw [h];exact Nat.mod_lt _ hb
theorem NE (b n k:Nat):lD b (gL b n k)=n%b^k:=by
 induction k generalizing n with
 | zero=>rw [Nat.pow_zero,Nat.mod_one];rfl
 | succ k ih =>
  rw [gL,uk,ih,Nat.pow_succ,Nat.mul_comm (b^k) b,Nat.mod_mul,Nat.mul_comm,Nat.add_comm]
theorem xA (b n j k:Nat):gL b n (j+k)=gL b (n/b^k) j++gL b (n%b^k) k:=by
 induction k generalizing n with
 | zero=>rw [Nat.pow_zero,Nat.div_one];simp [gL]
 | succ k ih =>
  rw [← Nat.add_assoc,gL,gL,ih,Nat.pow_succ,Nat.mul_comm (b^k) b,Nat.div_div_eq_div_mul,List.append_assoc]
  have h1:n%(b*b^k)/b=n/b%b^k:=by
   rw [Nat.mod_mul]
   rcases Nat.eq_zero_or_pos b with h | h
   · subst h;simp
   · rw [Nat.add_mul_div_left _ _ h,Nat.div_eq_of_lt (Nat.mod_lt _ h),Nat.zero_add]
  have h2:n%(b*b^k)%b=n%b:=Nat.mod_mul_right_mod _ _ _
  rw [h1,h2]
theorem Eh (b:Nat) (ds:List Nat) (h:∀ d∈ds,d<b):gL b (lD b ds) ds.length=ds:=by
 revert h
 refine Mm (P:=fun ds=>(∀ d∈ds,d<b)→gL b (lD b ds) ds.length=ds) (fun _=>rfl) (fun ds d ih h=>?_) ds
 · have h1:=ih fun x hx=>h x (by simp [hx])
   have h2:=h d (by simp)
   have e1:(lD b ds*b+d)%b=d:=by rw [Nat.mul_comm,Nat.mul_add_mod,Nat.mod_eq_of_lt h2]
   have e2:(lD b ds*b+d)/b=lD b ds:=by rw [Nat.mul_comm,Nat.mul_add_div (by omega),Nat.div_eq_of_lt h2,Nat.add_zero]
   rw [List.length_append,List.length_singleton,gL,uk,e1,e2,h1]
end Go.Proofs.YtdpmbgomcjnohaaGreatDoor
/- Digits without noughts ahead; how many there are. -/
namespace Go.Proofs.YtdpmbgomcjnohaaGreatDoor
set_option linter.unusedVariables false
set_option maxHeartbeats 400000
def lF:List Nat→List Nat
 | []=>[]
 | d::ds=>if d=0 then lF ds else d::ds
theorem Ie (ds:List Nat) (d:Nat):lF (ds++[d])=if lF ds=[] then (if d=0 then [] else [d]) else lF ds++[d]:=by
 induction ds with
 | nil=>simp [lF]
 | cons e ds ih =>
  rw [List.cons_append,lF,lF]
  by_cases h:e=0
  · rw [if_pos h,if_pos h];exact ih
  · rw [if_neg h,if_neg h];simp
theorem qR (ds:List Nat):∃ k,ds=List.replicate k 0++lF ds:=by
 induction ds with
 | nil=>exact ⟨0,rfl⟩
 | cons d ds ih =>
  obtain ⟨k,hk⟩:=ih
  rw [lF]
  by_cases h:d=0
  · rw [if_pos h,h]
    exact ⟨k+1,by rw [List.replicate_succ,List.cons_append,← hk]⟩
  · rw [if_neg h];exact ⟨0,rfl⟩
theorem Ig (b:Nat) (ds:List Nat):lD b (lF ds)=lD b ds:=by
 obtain ⟨k,hk⟩:=qR ds
 conv=>rhs;rw [hk,sU,Kk,Nat.zero_mul,Nat.zero_add]
def nd (b a:Nat):List Nat:=if h:a=0∨b<2 then [] else nd b (a/b)++[a%b]
termination_by a
decreasing_by exact Nat.div_lt_self (by omega) (by omega)
theorem Af (b:Nat):nd b 0=[]:=by rw [nd];simp
theorem Kl {b a:Nat} (ha:a≠0) (hb:2≤b):nd b a=nd b (a/b)++[a%b]:=by
 rw [nd,dif_neg (by omega)]
theorem Qt {b a:Nat} (ha:a≠0) (hb:2≤b):nd b a≠[]:=by rw [Kl ha hb];simp
theorem oO (b:Nat) (hb:2≤b) (k a:Nat) (h:a<b^k):lF (gL b a k)=nd b a:=by
 induction k generalizing a with
 | zero =>
  have:a=0:=by rw [Nat.pow_zero] at h;omega
  subst this
  rw [Af];rfl
 | succ k ih =>
  have h1:a/b<b^k:=Nat.div_lt_of_lt_mul (by rw [Nat.mul_comm,← Nat.pow_succ];exact h)
  rw [gL,Ie,ih _ h1]
  by_cases h0:a=0
  · subst h0
    rw [Nat.zero_div,Af,if_pos rfl,Nat.zero_mod,if_pos rfl]
  · rw [Kl h0 hb]
    by_cases h2:a/b=0
    · rw [h2,Af,if_pos rfl,if_neg,List.nil_append]
      have:=Nat.div_add_mod a b
      rw [h2,Nat.mul_zero,Nat.zero_add] at this
      rw [this];exact h0
    · rw [if_neg (Qt h2 hb)]
theorem Fj (b:Nat) (hb:2≤b) (a:Nat):lD b (nd b a)=a:=by
 have h:a<b^a:=Nat.lt_pow_self (by omega)
 rw [← oO b hb a a h,Ig,NE,Nat.mod_eq_of_lt h]
theorem Qu (b:Nat) (hb:2≤b) (a:Nat):∀ d∈nd b a,d<b:=by
 have h:a<b^a:=Nat.lt_pow_self (by omega)
 rw [← oO b hb a a h]
 intro d hd
 obtain ⟨k,hk⟩:=qR (gL b a a)
 exact TZ b a a (by omega) d (by rw [hk];exact List.mem_append_right _ hd)
theorem Ei (b:Nat) (hb:2≤b) (a:Nat):a<b^(nd b a).length:=by
 have:=TY b (nd b a) (Qu b hb a)
 rwa [Fj b hb] at this
theorem T9 (b:Nat) (hb:2≤b) (a:Nat):lF (nd b a)=nd b a:=by
 have h:a<b^a:=Nat.lt_pow_self (by omega)
 have e:=oO b hb (nd b a).length a (Ei b hb a)
 have e2:gL b a (nd b a).length=nd b a:=by
  have:=Eh b (nd b a) (Qu b hb a)
  rwa [Fj b hb] at this
 rwa [e2] at e
theorem Qv (b:Nat) (hb:2≤b) (a k:Nat) (h:b^k≤a):nd b a=nd b (a/b^k)++gL b (a%b^k) k:=by
 have hp:0<b^k:=Nat.pow_pos (by omega)
 have hq:a/b^k≠0:=by
  have:=Nat.div_pos h hp
  omega
 obtain ⟨j,hj⟩:∃ j,(nd b (a/b^k)).length=j:=⟨_,rfl⟩
 have h1:=Ei b hb (a/b^k)
 rw [hj] at h1
 have h2:a<b^(j+k):=by
  rw [Nat.pow_add]
  exact (Nat.div_lt_iff_lt_mul hp).1 h1
 rw [← oO b hb (j+k) a h2,xA]
 have h3:gL b (a/b^k) j=nd b (a/b^k):=by
  have:=Eh b (nd b (a/b^k)) (Qu b hb _)
  rwa [Fj b hb,hj] at this
 rw [h3]
 have h4:=T9 b hb (a/b^k)
 have h5:=Qt hq hb
 cases hn:nd b (a/b^k) with
 | nil=>exact absurd hn h5
 | cons d ds =>
  rw [hn,lF] at h4
  by_cases h0:d=0
  · rw [if_pos h0] at h4
    obtain ⟨i,hi⟩:=qR ds
    have:=congrArg List.length hi
    rw [h4,List.length_append,List.length_cons] at this
    omega
  · rw [List.cons_append,lF,if_neg h0]
end Go.Proofs.YtdpmbgomcjnohaaGreatDoor
/- Digits as bytes, and back; chunks of digits; the powers that are kept. -/
namespace Go.Proofs.YtdpmbgomcjnohaaGreatDoor
set_option linter.unusedVariables false
set_option maxHeartbeats 400000
def Fp (d:Nat):Nat:=if d<10 then 48+d else 87+d
structure Sc (b n p:Nat):Prop where
 b2:2≤b
 b36:b≤36
 n1:1≤n
 pw:p=b^n
 fit:p<4294967296
 most:4294967296≤p*b
structure ZI (b n p:Nat):Prop where
 n1:1≤n
 pw:p=b^n
 fit:p<4294967296
theorem ZI.step {b n p:Nat} (h:ZI b n p) (hlt:p*b<4294967296):ZI b (n+1) (p*b):=⟨by omega,by rw [h.pw,Nat.pow_succ],hlt⟩
theorem ZI.done {b n p:Nat} (h:ZI b n p) (h2:2≤b) (h36:b≤36) (hge:4294967296≤p*b):Sc b n p:=⟨h2,h36,h.n1,h.pw,h.fit,hge⟩
def kp (b n i:Nat):Nat:=b^(16*n*2^i)
theorem Ua (b n i:Nat):kp b n (i+1)=kp b n i*kp b n i:=by
 unfold kp;rw [← Nat.pow_add,Nat.pow_succ,← Nat.mul_assoc,Nat.mul_two]
theorem Qw (b n i a:Nat) (hb:2≤b) (h:a<kp b n (i+1)):a/kp b n i<kp b n i∧gL b a (16*n*2^(i+1))=gL b (a/kp b n i) (16*n*2^i)++gL b (a%kp b n i) (16*n*2^i):=by
 refine ⟨Nat.div_lt_of_lt_mul (by rw [← Ua];exact h),?_⟩
 rw [show 16*n*2^(i+1)=16*n*2^i+16*n*2^i by rw [Nat.pow_succ,← Nat.mul_assoc,Nat.mul_two],xA]
 rfl
end Go.Proofs.YtdpmbgomcjnohaaGreatDoor
/- Digits: their order, their places, bits of them; powers. -/
namespace Go.Proofs.YtdpmbgomcjnohaaGreatDoor
set_option linter.unusedVariables false
set_option maxHeartbeats 400000
def dt (b a:Nat):List Nat:=if a=0 then [0] else nd b a
theorem Ub (b:Nat):dt b 0=[0]:=rfl
theorem Xu {b a:Nat} (h:a≠0):dt b a=nd b a:=if_neg h
theorem Mq (b:Nat):∀ (k a i:Nat),i<k→lb (gL b a k) (k-1-i)=a/b^i%b
 | k+1,a,0,_=>by
  rw [gL,Nat.pow_zero,Nat.div_one]
  unfold lb
  rw [List.getElem?_append_right (by rw [jV];omega),jV]
  simp
 | k+1,a,i+1,h=>by
  have ih:=Mq b k (a/b) i (by omega)
  rw [gL]
  unfold lb at *
  rw [List.getElem?_append_left (by rw [jV];omega),show k+1-1-(i+1)=k-1-i by omega,ih,Nat.div_div_eq_div_mul,Nat.pow_succ,Nat.mul_comm]
end Go.Proofs.YtdpmbgomcjnohaaGreatDoor
/- A base's scale. -/
namespace Go.Proofs.YtdpmbgomcjnohaaGreatDoor
open Go.RowKit
set_option linter.unusedVariables false
set_option maxHeartbeats 400000
abbrev SV (b n p:Nat):Value:=.agg #[.int .u32 (b:Nat),.int .i64 (n:Nat),.int .u32 (p:Nat)]
def UA (w:World) (B b n p:Nat):Prop:=B<w.heap.size∧w.cell? ⟨B,0,none⟩=some (.int .u32 (b:Nat))∧w.cell? ⟨B,1,none⟩=some (.int .i64 (n:Nat))∧w.cell? ⟨B,2,none⟩=some (.int .u32 (p:Nat))
theorem UA.ext {w w':World} {B b n p:Nat} (h:UA w B b n p) (hE:Ext w w'):UA w' B b n p:=by
 obtain ⟨h0,h1,h2,h3⟩:=h
 have hc:=fun o=>hE.cell (p:=⟨B,o,none⟩) h0
 exact ⟨Nat.lt_of_lt_of_le h0 hE.size,by rw [hc];exact h1,by rw [hc];exact h2,by rw [hc];exact h3⟩
def Wr (w:World) (B:Nat):Prop:=∀ j,w.frozen? ⟨B,j,none⟩=false
theorem Wr.setCell {w:World} {B:Nat} (h:Wr w B) (p:Addr) (v:Value):Wr (w.setCell p v) B:=by
 intro j
 have:=h j
 go_simp
end Go.Proofs.YtdpmbgomcjnohaaGreatDoor
/- Rows of bytes; a chunk of digits, and a row of digits chunk by chunk: plain mathematics and memory. -/
namespace Go.Proofs.YtdpmbgomcjnohaaGreatDoor
open Go.RowKit
set_option linter.unusedVariables false
set_option maxHeartbeats 400000
def Bv (o:List Nat):List Value:=o.map fun x=>Value.int .u8 (x:Nat)
theorem XM (o:List Nat) {j:Nat} (h:j<o.length):(Bv o)[j]?=some (.int .u8 (lb o j:Nat)):=by unfold Bv lb;simp [h]
def By (T:TypeId) (w:World) (g:Nat) (o:List Nat):Prop:=w.heap[g]?=some (.cells (Bv o).toArray T (0,0))
theorem By.lt {T:TypeId} {w:World} {g:Nat} {o:List Nat} (h:By T w g o):g<w.heap.size:=(Array.getElem?_eq_some_iff.1 h).1
theorem By.cell {T:TypeId} {w:World} {g:Nat} {o:List Nat} (h:By T w g o) {j:Nat} (hj:j<o.length):w.cell? ⟨g,j,none⟩=some (.int .u8 (lb o j:Nat)):=by
 rw [cell_of_row w g j _ _ _ h,List.getElem?_toArray];exact XM o hj
theorem By.other {T:TypeId} {w:World} {g q:Nat} {o:List Nat} (h:By T w g o) (hne:g≠q) (j:Nat) (v:Value):By T (w.setCell ⟨q,j,none⟩ v) g o:=by
 unfold By
 rw [heap_setCell_other w ⟨q,j,none⟩ g v hne];exact h
theorem By.ext {T:TypeId} {w w':World} {g:Nat} {o:List Nat} (h:By T w g o) (hE:Ext w w'):By T w' g o:=by
 unfold By
 rw [hE.block g h.lt];exact h
theorem By.but {T:TypeId} {w w':World} {g q:Nat} {o:List Nat} (h:By T w g o) (hE:But q w w') (hne:g≠q):By T w' g o:=by
 unfold By
 rw [hE.block g h.lt (fun e=>hne (by injection e))];exact h
structure Z7 (b n r0 k:Nat) (c:List Nat) (r:Nat):Prop where
 len:c.length=32
 at_:∀ j,k≤j→j<n→lb c j=Fp (lb (gL b r0 n) j)
 rest:r=r0/b^(n-k)
theorem Z7.step {b n r0 k:Nat} {c:List Nat} {r:Nat} (h:Z7 b n r0 (k+1) c r) (hk:k<n) (hn:n≤32):Z7 b n r0 k (c.set k (Fp (r%b))) (r/b):=by
 refine ⟨by simp [h.len],fun j h1 h2=>?_,?_⟩
 · rw [iN _ _ _ _ (by rw [h.len];omega)]
   by_cases e:k=j
   · subst e
     rw [if_pos rfl]
     have:=Mq b n r0 (n-(k+1)) (by omega)
     rw [show n-1-(n-(k+1))=k by omega,← h.rest] at this
     rw [this]
   · rw [if_neg e];exact h.at_ j (by omega) h2
 · rw [h.rest,Nat.div_div_eq_div_mul,← Nat.pow_succ];congr 2;omega
theorem Z7.done {b n r0:Nat} {c:List Nat} {r:Nat} (h:Z7 b n r0 0 c r) (hn:n≤32):c.take n=(gL b r0 n).map Fp:=by
 have e1:(c.take n).length=n:=by rw [List.length_take,h.len];omega
 refine mP (by rw [e1,List.length_map,jV]) fun j hj=>?_
 rw [e1] at hj
 rw [iA hj,h.at_ j (Nat.zero_le _) hj]
 have hj2:j<(gL b r0 n).length:=by rw [jV];exact hj
 unfold lb
 simp [hj2]
theorem IB (b a n k:Nat) (h:k≤n):gL b (a%b^n) k=gL b a k:=by
 obtain ⟨d,rfl⟩:∃ d,n=k+d:=⟨n-k,by omega⟩
 clear h
 induction k generalizing a with
 | zero=>rfl
 | succ k ih =>
  rw [gL,gL]
  have e:k+1+d=(k+d)+1:=by omega
  rw [e,Nat.pow_succ,Nat.mul_comm (b^(k+d)) b,Nat.mod_mul_right_div_self,ih,Nat.mod_mul_right_mod]
structure WrI (b len a0:Nat) (pre mid post:List Nat) (m:Nat) (o:List Nat) (a:Nat):Prop where
 le:m≤len
 row:o=pre++(mid.take m++(((gL b a0 len).map Fp).drop m++post))
 rest:a=a0/b^(len-m)
theorem WrI.step {b len a0 n:Nat} {pre mid post:List Nat} {m:Nat} {o:List Nat} {a:Nat} (h:WrI b len a0 pre mid post m o a) (hb:2≤b) (hmid:mid.length=len) (ha:a0<b^len) (k:Nat) (hk:min n m=k) :
  WrI b len a0 pre mid post (m-k) (splice o (pre.length+(m-k)) ((gL b (a%b^n) k).map Fp)) (a/b^n):=by
 have hle:=h.le
 have hkm:k≤m:=by omega
 refine ⟨by omega,?_,?_⟩
 · rw [IB b a n k (by omega)]
   have e1:(gL b a0 len).drop (m-k)=gL b a k++(gL b a0 len).drop m:=by
    have h1:gL b a0 len=gL b a m++gL b (a0%b^(len-m)) (len-m):=by
     have:=xA b a0 m (len-m)
     rw [show m+(len-m)=len by omega] at this
     rw [this,h.rest]
    have h2:gL b a m=gL b (a/b^k) (m-k)++gL b a k:=by
     have:=xA b a (m-k) k
     rw [show m-k+k=m by omega,IB b a k k (Nat.le_refl _)] at this
     exact this
    rw [h1,List.drop_append_of_le_length (by rw [jV];omega),List.drop_left' (by rw [jV]),h2,List.drop_left' (by rw [jV])]
   rw [h.row,splice,← List.map_drop,← List.map_drop,e1,List.map_append]
   have l1:((gL b a k).map Fp).length=k:=by rw [List.length_map,jV]
   have l2:(mid.take m).length=m:=by rw [List.length_take];omega
   rw [l1]
   have t1:(pre++(mid.take m++(((gL b a0 len).drop m).map Fp++post))).take (pre.length+(m-k))=pre++mid.take (m-k):=by
    rw [List.take_length_add_append,List.take_append_of_le_length (by rw [l2];omega),List.take_take,Nat.min_eq_left (by omega)]
   have t2:(pre++(mid.take m++(((gL b a0 len).drop m).map Fp++post))).drop (pre.length+(m-k)+k)=((gL b a0 len).drop m).map Fp++post:=by
    rw [show pre.length+(m-k)+k=pre.length+m by omega,List.drop_length_add_append,List.drop_left' l2]
   rw [t1,t2]
   simp only [List.append_assoc]
 · rw [h.rest,Nat.div_div_eq_div_mul,← Nat.pow_add]
   rcases Nat.le_total n m with h1 | h1
   · congr 2;omega
   · have hz:a0/b^(len-m+n)=0:=Nat.div_eq_of_lt (Nat.lt_of_lt_of_le ha (Nat.pow_le_pow_right (by omega) (by omega)))
     rw [hz,show len-(m-k)=len by omega,Nat.div_eq_of_lt ha]
end Go.Proofs.YtdpmbgomcjnohaaGreatDoor
/- A row of digits is written. -/
namespace Go.Proofs.YtdpmbgomcjnohaaGreatDoor
open Go.RowKit
set_option linter.unusedVariables false
set_option maxHeartbeats 400000
theorem UA.other {w:World} {B b n p:Nat} (h:UA w B b n p) {q:Nat} (hne:B≠q) (j:Nat) (v:Value):UA (w.setCell ⟨q,j,none⟩ v) B b n p:=by
 obtain ⟨h0,h1,h2,h3⟩:=h
 have hc:∀ i,(w.setCell ⟨q,j,none⟩ v).cell? ⟨B,i,none⟩=w.cell? ⟨B,i,none⟩:=fun i=>World.cell?_of_block (heap_setCell_other w ⟨q,j,none⟩ B v hne)
 exact ⟨by simpa [World.setCell] using h0,by rw [hc];exact h1,by rw [hc];exact h2,by rw [hc];exact h3⟩
theorem UA.but {w w':World} {B b n p g:Nat} (h:UA w B b n p) (hE:But g w w') (hne:B≠g):UA w' B b n p:=by
 obtain ⟨h0,h1,h2,h3⟩:=h
 have hc:∀ i,w'.cell? ⟨B,i,none⟩=w.cell? ⟨B,i,none⟩:=fun i=>hE.cell h0 hne
 exact ⟨Nat.lt_of_lt_of_le h0 hE.size,by rw [hc];exact h1,by rw [hc];exact h2,by rw [hc];exact h3⟩
end Go.Proofs.YtdpmbgomcjnohaaGreatDoor
/- A row of slices that grows; what is kept meanwhile. -/
namespace Go.Proofs.YtdpmbgomcjnohaaGreatDoor
open Go.RowKit
set_option linter.unusedVariables false
set_option maxHeartbeats 400000
def Sl (u:Value):Prop:=∃ a l c,u = .slice a l c
theorem U.sl {w:World} {v:Value} {xs:List Nat} (h:U w v xs):Sl v:=by
 obtain ⟨A,c,rfl,_⟩:=h
 exact ⟨_,_,_,rfl⟩
theorem Sl.one {u:Value} (h:Sl u):u.oneCell'=true:=by obtain ⟨a,l,c,rfl⟩:=h;rfl
theorem Fz {w:World} {p:Addr} {v:Value} (h:w.cell? p=some v):p.block<w.heap.size:=by
 rcases Nat.lt_or_ge p.block w.heap.size with h1 | h1
 · exact h1
 · exfalso
   unfold World.cell? at h
   rw [Array.getElem?_eq_none h1] at h
   cases h
structure IC (B:Nat) (w w':World):Prop where
 below:Below B w w'
 cell:∀ p v,w.cell? p=some v→¬ Sl v→w'.cell? p=some v
theorem IC.refl (B:Nat) (w:World):IC B w w:=⟨Below.refl _ _,fun _ _ h _=>h⟩
theorem IC.trans {B:Nat} {a b c:World} (h:IC B a b) (k:IC B b c):IC B a c:=⟨h.below.trans k.below,fun p v h1 h2=>k.cell p v (h.cell p v h1 h2) h2⟩
theorem IC.VP {B:Nat} {a b:World} (hB:B≤a.heap.size) (h:Ext a b):IC B a b:=⟨Below.mono h hB,fun p v h1 _=>(h.cell (Fz h1)).trans h1⟩
theorem IC.ext {B:Nat} {a b c:World} (h:IC B a b) (hB:B≤a.heap.size) (k:Ext b c):IC B a c:=h.trans (IC.VP (Nat.le_trans hB h.below.size) k)
theorem IC.size {B:Nat} {a b:World} (h:IC B a b):a.heap.size≤b.heap.size:=h.below.size
theorem IC.mono {B C:Nat} {a b:World} (h:IC B a b) (hC:C≤B):IC C a b:=⟨Below.mono h.below hC,h.cell⟩
structure Rw (B:Nat) (w:World) (g n cap:Nat) (es:List Value):Prop where
 lo:B≤g
 caps:n≤cap∧cap≤maxLen
 len:es.length=n
 row:∃ cur:Array Value,w.heap[g]?=some (.cells cur 22 (0,0))∧cur.size=cap∧cur.toList.take n=es∧∀ u∈cur.toList,Sl u
theorem Rw.lt {B:Nat} {w:World} {g n cap:Nat} {es:List Value} (h:Rw B w g n cap es):g<w.heap.size:=by
 obtain ⟨cur,h1,_⟩:=h.row
 exact (Array.getElem?_eq_some_iff.1 h1).1
theorem Rw.cell {B:Nat} {w:World} {g n cap:Nat} {es:List Value} (h:Rw B w g n cap es) {j:Nat} (hj:j<n):w.cell? ⟨g,j,none⟩=es[j]?:=by
 obtain ⟨cur,h1,h2,h3,h4⟩:=h.row
 rw [cell_of_row w g j _ _ _ h1,← h3,List.getElem?_take_of_lt hj,Array.getElem?_toList]
theorem Rw.of {B:Nat} {w w':World} {g n cap:Nat} {es:List Value} (h:Rw B w g n cap es) (e:w'.heap[g]?=w.heap[g]?):Rw B w' g n cap es:=by
 obtain ⟨cur,h1,h2⟩:=h.row
 exact ⟨h.lo,h.caps,h.len,cur,e.trans h1,h2⟩
theorem Rw.ext {B:Nat} {w w':World} {g n cap:Nat} {es:List Value} (h:Rw B w g n cap es) (k:Ext w w'):Rw B w' g n cap es:=h.of (k.block g h.lt)
theorem Rw.sl {B:Nat} {w:World} {g n cap:Nat} {es:List Value} (h:Rw B w g n cap es) {p:Addr} (hp:p.block=g) {v:Value} (hv:w.cell? p=some v):Sl v:=by
 obtain ⟨cur,h1,h2,h3,h4⟩:=h.row
 unfold World.cell? at hv
 rw [hp,h1] at hv
 simp only at hv
 split at hv
 · cases hv
 · exact h4 v (Array.mem_toList_iff.2 (Array.mem_of_getElem? hv))
theorem Rw.new (B:Nat) (w:World) (e:Value) (he:Sl e) (hB:B≤w.heap.size):Rw B (w.alloc (.cells #[e] 22)) w.heap.size 1 1 [e] :=
 ⟨hB,⟨Nat.le_refl _,by unfold maxLen;omega⟩,rfl,#[e],heap_alloc_new w _,rfl,rfl,fun u hu=>by simp at hu;subst hu;exact he⟩
end Go.Proofs.YtdpmbgomcjnohaaGreatDoor
/- The powers of a base that are kept. -/
namespace Go.Proofs.YtdpmbgomcjnohaaGreatDoor
open Go.RowKit
set_option linter.unusedVariables false
set_option maxHeartbeats 400000
attribute [local go_sem ↓] fD
attribute [local go_sem] bL
structure Kp (B b n:Nat) (w:World) (Bk K:Nat):Prop where
 lo:B≤Bk
 fr:w.frozen? ⟨Bk,0,none⟩=false
 k1:1≤K∧K≤1000
 row:∃ g cap es,w.cell? ⟨Bk,0,none⟩=some (.slice (some ⟨g,0,none⟩) K cap)∧Rw B w g K cap es∧g≠Bk∧∀ i,i<K→∃ e,es[i]?=some e∧Un w e (kp b n i)
theorem Kp.lt {B b n:Nat} {w:World} {Bk K:Nat} (h:Kp B b n w Bk K):Bk<w.heap.size:=by
 obtain ⟨g,cap,es,h1,_⟩:=h.row
 exact Fz h1
theorem Kp.ext {B b n:Nat} {w w':World} {Bk K:Nat} (h:Kp B b n w Bk K) (k:Ext w w'):Kp B b n w' Bk K:=by
 have hlt:=h.lt
 obtain ⟨g,cap,es,h1,h2,h3,h4⟩:=h.row
 have hb:w'.heap[Bk]?=w.heap[Bk]?:=k.block Bk hlt
 refine ⟨h.lo,(World.frozen?_of_block (a:=⟨Bk,0,none⟩) hb).trans h.fr,h.k1,g,cap,es,(World.cell?_of_block (a:=⟨Bk,0,none⟩) hb).trans h1,h2.ext k,h3,fun i hi=>?_⟩
 obtain ⟨e,h5,h6⟩:=h4 i hi
 exact ⟨e,h5,h6.below k⟩
end Go.Proofs.YtdpmbgomcjnohaaGreatDoor
/- A row of digits is split at a power. -/
namespace Go.Proofs.YtdpmbgomcjnohaaGreatDoor
open Go.RowKit
set_option linter.unusedVariables false
set_option maxHeartbeats 400000
theorem By.int {T:TypeId} {w:World} {g:Nat} {o:List Nat} (h:By T w g o) {p:Addr} (hp:p.block=g) {v:Value} (hv:w.cell? p=some v):∃ x:Nat,v = .int .u8 (x:Nat):=by
 unfold By at h
 unfold World.cell? at hv
 rw [hp,h] at hv
 simp only at hv
 split at hv
 · cases hv
 · have:=Array.mem_of_getElem? hv
   have h2:=Array.mem_toList_iff.2 this
   simp only [Bv] at h2
   obtain ⟨z,_,rfl⟩:=List.mem_map.1 h2
   exact ⟨z,rfl⟩
def Fb (w:World) (Q:Nat) (f:Value):Prop:=Q<w.heap.size∧w.cell? ⟨Q,0,none⟩=some f
theorem Fb.ext {w w':World} {Q:Nat} {f:Value} (h:Fb w Q f) (k:Ext w w'):Fb w' Q f:=⟨Nat.lt_of_lt_of_le h.1 k.size,(k.cell (p:=⟨Q,0,none⟩) h.1).trans h.2⟩
theorem Fb.but {w w':World} {Q g:Nat} {f:Value} (h:Fb w Q f) (k:But g w w') (hne:Q≠g):Fb w' Q f:=⟨Nat.lt_of_lt_of_le h.1 k.size,(k.cell (p:=⟨Q,0,none⟩) h.1 hne).trans h.2⟩
end Go.Proofs.YtdpmbgomcjnohaaGreatDoor
/- Digits are read chunk by chunk: plain mathematics. -/
namespace Go.Proofs.YtdpmbgomcjnohaaGreatDoor
set_option linter.unusedVariables false
set_option maxHeartbeats 400000
theorem En (L n k:Nat) (hn:1≤n) (hL:1≤L) (hk:(L-1)%n+1=k):k≤n∧k≤L∧(L-k)%n=0:=by
 have h1:=Nat.mod_lt (L-1) (show n>0 by omega)
 have h2:=Nat.mod_le (L-1) n
 have h3:=Nat.div_add_mod (L-1) n
 have h4:L-k=n*((L-1)/n):=by omega
 exact ⟨by omega,by omega,by rw [h4];exact Nat.mul_mod_right _ _⟩
theorem KH (L n k:Nat) (hn:1≤n) (hL:1≤L) (h0:L%n=0) (hk:(L-1)%n+1=k):k=n:=by
 obtain ⟨h1,h2,h3⟩:=En L n k hn hL hk
 have a1:=Nat.div_add_mod L n
 have a2:=Nat.div_add_mod (L-k) n
 rw [h0] at a1
 rw [h3] at a2
 have e:n*(L/n)=n*((L-k)/n)+k:=by omega
 have e2:n*(L/n)-n*((L-k)/n)=k:=by omega
 rw [← Nat.mul_sub] at e2
 have hk0:1≤k:=by omega
 rcases Nat.eq_zero_or_pos (L/n-(L-k)/n) with h | h
 · rw [h,Nat.mul_zero] at e2;omega
 · have:=Nat.mul_le_mul_left n h
   rw [Nat.mul_one] at this
   omega
structure Z8 (b n:Nat) (ds:List Nat) (i a:Nat):Prop where
 le:i≤ds.length
 val:a=lD b (ds.take i)
 at_:i=0∨(ds.length-i)%n=0
theorem Z8.step {b n:Nat} {ds:List Nat} {i a:Nat} (h:Z8 b n ds i a) (hn:1≤n) (hi:i<ds.length) (k:Nat) (hk:(ds.length-i-1)%n+1=k) :
  k≤n∧i+k≤ds.length∧Z8 b n ds (i+k) (a*b^n+lD b ((ds.drop i).take k)):=by
 obtain ⟨h1,h2,h3⟩:=En (ds.length-i) n k hn (by omega) hk
 refine ⟨h1,by omega,by omega,?_,.inr (by rw [show ds.length-(i+k)=ds.length-i-k by omega];exact h3)⟩
 have e:ds.take (i+k)=ds.take i++(ds.drop i).take k:=List.take_add
 rw [e,sU,h.val]
 have hl:((ds.drop i).take k).length=k:=by rw [List.length_take,List.length_drop];omega
 rw [hl]
 rcases h.at_ with h0 | h0
 · subst h0
   rw [List.take_zero,Qs,Nat.zero_mul,Nat.zero_mul]
 · rw [KH (ds.length-i) n k hn (by omega) h0 hk]
theorem Z8.done {b n:Nat} {ds:List Nat} {a:Nat} (h:Z8 b n ds ds.length a):a=lD b ds:=by
 rw [h.val,List.take_length]
end Go.Proofs.YtdpmbgomcjnohaaGreatDoor
/- The digits of a natural: the program's Text. -/
namespace Go.Proofs.YtdpmbgomcjnohaaGreatDoor
open Go.RowKit
set_option linter.unusedVariables false
set_option maxHeartbeats 400000
theorem By.made {w1:World} {base g n:Nat} (h:w1.ownsRow base 5 1 (.slice (some ⟨g,0,none⟩) n n) n (madeCells (Value.int .u8 0).cells (n*1)).toList):By 5 w1 g (List.replicate n 0):=by
 have hm:(madeCells (Value.int .u8 0).cells (n*1)).toList=List.replicate n (Value.int .u8 0):=by
  rw [Nat.mul_one];exact toList_madeCells_one _ _
 rw [hm] at h
 rcases h.2 with ⟨e,_⟩ | ⟨g2,cap,cur,e,hbg,hg,hnc,hcm,hcs,htake⟩
 · cases e
 · injection e with e1 e2 e3
   injection e1 with e1
   injection e1 with e1
   subst e1
   subst e3
   have XN:cur=(Bv (List.replicate n 0)).toArray:=by
    apply Array.toList_inj.1
    have:cur.toList.take (n*1)=cur.toList:=List.take_of_length_le (by rw [Array.length_toList];omega)
    rw [← this,htake]
    simp [Bv]
   unfold By
   rw [hg,XN]
end Go.Proofs.YtdpmbgomcjnohaaGreatDoor
/- How many digits: the program's Count. -/
namespace Go.Proofs.YtdpmbgomcjnohaaGreatDoor
open Go.RowKit
set_option linter.unusedVariables false
set_option maxHeartbeats 400000
structure VQ (b n a0 k a N:Nat):Prop where
 lt:a<kp b n k
 len:(nd b a0).length=N+(nd b a).length
 nz:a=0→a0=0
 le:a≤a0
theorem VQ.stay {b n a0 k a N:Nat} (h:VQ b n a0 (k+1) a N) (hlt:a<kp b n k):VQ b n a0 k a N:=⟨hlt,h.len,h.nz,h.le⟩
theorem VQ.cut {b n a0 k a N:Nat} (h:VQ b n a0 (k+1) a N) (hb:2≤b) (hge:kp b n k≤a) (q:Nat) (hq:a/kp b n k=q):VQ b n a0 k q (N+16*n*2^k):=by
 have h1:=(Qw b n k a hb h.lt).1
 have h2:=Qv b hb a (16*n*2^k) hge
 have h3:=congrArg List.length h2
 rw [List.length_append,jV] at h3
 have h0:0<kp b n k:=by unfold kp;exact Nat.pow_pos (by omega)
 rw [hq] at h1
 refine ⟨h1,?_,fun e=>?_,Nat.le_trans (by rw [← hq];exact Nat.div_le_self _ _) h.le⟩
 · rw [h.len,h3]
   have:a/b^(16*n*2^k)=q:=hq
   rw [this];omega
 · exfalso
   have:=Nat.div_pos hge h0
   omega
theorem VQ.done {b n a0 a N:Nat} (h:VQ b n a0 0 a N) (hb:2≤b) (m:Nat) (hm:(if (nd b a).length<1 then 1 else (nd b a).length)=m):(dt b a0).length=N+m:=by
 have hl:=h.len
 by_cases ha:a=0
 · have h0:=h.nz ha
   subst ha
   subst h0
   rw [Af] at hm hl
   rw [Ub]
   simp at hm hl
   simp
   omega
 · have h0:a0≠0:=fun e=>ha (by have:=h.le;omega)
   rw [Xu h0,hl]
   have:1≤(nd b a).length:=by
    have:=Qt ha hb
    cases e:nd b a with
    | nil=>exact absurd e this
    | cons x xs=>simp
   rw [if_neg (by omega)] at hm
   omega
end Go.Proofs.YtdpmbgomcjnohaaGreatDoor
/- The document's over: a natural over a small number. -/
namespace Go.Proofs.YtdpmbgomcjnohaaGreatDoor
open Go.RowKit
set_option linter.unusedVariables false
set_option maxHeartbeats 400000
structure Z9 (xs:List Nat) (m k:Nat) (o:List Nat) (rs:Nat):Prop where
 len:o.length=xs.length
 lt:∀ x∈o,x<4294967296
 rest:rs<m
 val:val (xs.drop k)=m*val (o.drop k)+rs
theorem Z9.step {xs:List Nat} {m j:Nat} {o:List Nat} {rs:Nat} (h:Z9 xs m (j+1) o rs) (hj:j<xs.length) (x n q r:Nat) (hx:lb xs j=x) (hxb:x<4294967296) (hn:4294967296*rs+x=n) (hq:n/m=q) (hr:n%m=r) :
  q<4294967296∧Z9 xs m j (o.set j q) r:=by
 have hm:0<m:=Nat.lt_of_le_of_lt (Nat.zero_le _) h.rest
 have hq1:q<4294967296:=by
  rw [← hq]
  refine Nat.div_lt_of_lt_mul ?_
  have h1:4294967296*(rs+1)≤4294967296*m:=Nat.mul_le_mul_left _ h.rest
  rw [Nat.mul_comm m]
  omega
 refine ⟨hq1,by rw [List.length_set];exact h.len,dY h.lt hq1,by rw [← hr];exact Nat.mod_lt _ hm,?_⟩
 have hjo:j<(o.set j q).length:=by rw [List.length_set,h.len];exact hj
 rw [jR xs j hj,hx,h.val,jR (o.set j q) j hjo,kP q (by rw [h.len];exact hj),List.drop_set_of_lt (by omega)]
 have e:m*q+r=n:=by rw [← hq,← hr];exact Nat.div_add_mod n m
 generalize Proofs.YtdpmbgomcjnohaaGreatDoor.val (o.drop (j+1))=V
 have e2:m*(4294967296*V)=4294967296*(m*V):=Nat.mul_left_comm _ _ _
 generalize m*V=mV at *
 first
  | (rw [Nat.mul_add m,e2];omega)
  | (rw [Nat.add_comm q,Nat.mul_add m,e2];omega)
theorem Z9.done {xs:List Nat} {m:Nat} {o:List Nat} {rs a:Nat} (h:Z9 xs m 0 o rs) (ha:Proofs.YtdpmbgomcjnohaaGreatDoor.val xs=a):Proofs.YtdpmbgomcjnohaaGreatDoor.val o=a/m∧rs=a%m:=by
 have h1:=h.val
 rw [List.drop_zero,List.drop_zero,ha] at h1
 have hm:0<m:=Nat.lt_of_le_of_lt (Nat.zero_le _) h.rest
 constructor
 · rw [h1,Nat.mul_add_div hm,Nat.div_eq_of_lt h.rest,Nat.add_zero]
 · rw [h1,Nat.mul_add_mod,Nat.mod_eq_of_lt h.rest]
end Go.Proofs.YtdpmbgomcjnohaaGreatDoor
/- The document's Step: a natural times a small number, and another one. -/
namespace Go.Proofs.YtdpmbgomcjnohaaGreatDoor
open Go.RowKit
set_option linter.unusedVariables false
set_option maxHeartbeats 400000
attribute [local go_sem ↓] fD
attribute [local go_sem] bL
structure StI (xs:List Nat) (m d i:Nat) (o:List Nat) (rs:Nat):Prop where
 len:o.length=i
 lt:∀ x∈o,x<4294967296
 val:Proofs.YtdpmbgomcjnohaaGreatDoor.val o+rs*4294967296^i=Proofs.YtdpmbgomcjnohaaGreatDoor.val (xs.take i)*m+d
theorem StI.step {xs:List Nat} {m d i:Nat} {o:List Nat} {rs:Nat} (h:StI xs m d i o rs) (hi:i<xs.length) (x n q r:Nat) (hx:lb xs i=x) (hn:x*m+rs=n) (hq:n/4294967296=q) (hr:n%4294967296=r) :
  StI xs m d (i+1) (o++[r]) q:=by
 refine ⟨by rw [List.length_append,h.len];rfl,l5 h.lt (by rw [← hr];exact Nat.mod_lt _ (by decide)),?_⟩
 rw [sZ,h.len,gV xs i hi,hx,Nat.add_mul,Nat.pow_succ]
 have hv:=h.val
 have e:4294967296*q+r=n:=by rw [← hq,← hr];exact Nat.div_add_mod n 4294967296
 generalize 4294967296^i=P at *
 have e1:q*(P*4294967296)=(4294967296*q)*P:=by rw [Nat.mul_comm P,← Nat.mul_assoc,Nat.mul_comm q]
 have e2:x*P*m=x*m*P:=Nat.mul_right_comm _ _ _
 rw [e1,e2]
 have e3:(4294967296*q)*P+r*P=n*P:=by rw [← Nat.add_mul,e]
 have e4:n*P=x*m*P+rs*P:=by rw [← hn,Nat.add_mul]
 omega
theorem StI.done {xs:List Nat} {m d L:Nat} {o:List Nat} {rs a:Nat} (h:StI xs m d L o rs) (hL:xs.length=L) (ha:Proofs.YtdpmbgomcjnohaaGreatDoor.val xs=a):Proofs.YtdpmbgomcjnohaaGreatDoor.val (o++[rs])=a*m+d:=by
 rw [sZ,h.len,h.val,List.take_of_length_le (by omega),ha]
end Go.Proofs.YtdpmbgomcjnohaaGreatDoor
/- Rows of bytes that grow; what is kept meanwhile. -/
namespace Go.Proofs.YtdpmbgomcjnohaaGreatDoor
open Go.RowKit
set_option linter.unusedVariables false
set_option maxHeartbeats 400000
def I8 (u:Value):Prop:=∃ x:Nat,u = .int .u8 (x:Nat)
theorem I8.one {u:Value} (h:I8 u):u.oneCell'=true:=by obtain ⟨x,rfl⟩:=h;rfl
structure Key (B:Nat) (w w':World):Prop where
 below:Below B w w'
 cell:∀ p v,w.cell? p=some v→¬ I8 v→w'.cell? p=some v
theorem Key.refl (B:Nat) (w:World):Key B w w:=⟨Below.refl _ _,fun _ _ h _=>h⟩
theorem Key.trans {B:Nat} {a b c:World} (h:Key B a b) (k:Key B b c):Key B a c:=⟨h.below.trans k.below,fun p v h1 h2=>k.cell p v (h.cell p v h1 h2) h2⟩
theorem Key.VP {B:Nat} {a b:World} (hB:B≤a.heap.size) (h:Ext a b):Key B a b:=⟨Below.mono h hB,fun p v h1 _=>(h.cell (Fz h1)).trans h1⟩
theorem Key.size {B:Nat} {a b:World} (h:Key B a b):a.heap.size≤b.heap.size:=h.below.size
theorem U.key {B:Nat} {w w':World} {v:Value} {xs:List Nat} (h:U w v xs) (k:Key B w w'):U w' v xs:=by
 obtain ⟨A,c,rfl,hc,hx,hr⟩:=h
 refine ⟨A,c,rfl,hc,hx,fun h0=>?_⟩
 obtain ⟨ad,hA,hb,hcell⟩:=hr h0
 exact ⟨ad,hA,Nat.lt_of_lt_of_le hb k.size,fun j hj=>k.cell _ _ (hcell j hj) (by rintro ⟨x,e⟩;cases e)⟩
theorem Un.key {B:Nat} {w w':World} {v:Value} {n:Nat} (h:Un w v n) (k:Key B w w'):Un w' v n:=U.key h k
structure Ry (B:Nat) (w:World) (g n cap:Nat) (es:List Value):Prop where
 lo:B≤g
 caps:n≤cap∧cap≤maxLen
 len:es.length=n
 row:∃ cur:Array Value,w.heap[g]?=some (.cells cur 5 (0,0))∧cur.size=cap∧cur.toList.take n=es∧∀ u∈cur.toList,I8 u
theorem Ry.lt {B:Nat} {w:World} {g n cap:Nat} {es:List Value} (h:Ry B w g n cap es):g<w.heap.size:=by
 obtain ⟨cur,h1,_⟩:=h.row
 exact (Array.getElem?_eq_some_iff.1 h1).1
theorem Ry.cell {B:Nat} {w:World} {g n cap:Nat} {es:List Value} (h:Ry B w g n cap es) {j:Nat} (hj:j<n):w.cell? ⟨g,j,none⟩=es[j]?:=by
 obtain ⟨cur,h1,h2,h3,h4⟩:=h.row
 rw [cell_of_row w g j _ _ _ h1,← h3,List.getElem?_take_of_lt hj,Array.getElem?_toList]
theorem Ry.of {B:Nat} {w w':World} {g n cap:Nat} {es:List Value} (h:Ry B w g n cap es) (e:w'.heap[g]?=w.heap[g]?):Ry B w' g n cap es:=by
 obtain ⟨cur,h1,h2⟩:=h.row
 exact ⟨h.lo,h.caps,h.len,cur,e.trans h1,h2⟩
theorem Ry.ext {B:Nat} {w w':World} {g n cap:Nat} {es:List Value} (h:Ry B w g n cap es) (k:Ext w w'):Ry B w' g n cap es:=h.of (k.block g h.lt)
theorem Ry.new (B:Nat) (w:World) (hB:B≤w.heap.size):Ry B (w.alloc (.cells #[] 5)) w.heap.size 0 0 [] :=
 ⟨hB,⟨Nat.le_refl _,by unfold maxLen;omega⟩,rfl,#[],heap_alloc_new w _,rfl,rfl,fun u hu=>by simp at hu⟩
theorem Ry.but {B:Nat} {w:World} {g n cap:Nat} {es:List Value} (h:Ry B w g n cap es) (j:Nat) (v:Value):Below B w (w.setCell ⟨g,j,none⟩ v) :=
 ⟨rfl,rfl,rfl,by simp [World.setCell],fun k hk=>heap_setCell_other w ⟨g,j,none⟩ k v (by have:=h.lo;show k≠g;omega)⟩
end Go.Proofs.YtdpmbgomcjnohaaGreatDoor
/- The document's Text and Count. -/
namespace Go.Proofs.YtdpmbgomcjnohaaGreatDoor
open Go.RowKit
set_option linter.unusedVariables false
set_option maxHeartbeats 400000
attribute [local go_sem ↓] fD
attribute [local go_sem] bL
structure TxI (b a0 a:Nat) (ds:List Nat):Prop where
 spl:nd b a0=nd b a++ds.reverse
 lt:∀ d∈ds,d<b
theorem TxI.step {b a0 a:Nat} {ds:List Nat} (h:TxI b a0 a ds) (hb:2≤b) (ha:a≠0) (q r:Nat) (hq:a/b=q) (hr:a%b=r):r<b∧ds.length<(nd b a0).length∧TxI b a0 q (ds++[r]):=by
 have hrb:r<b:=by rw [← hr];exact Nat.mod_lt _ (by omega)
 have e:=Kl ha hb
 refine ⟨hrb,?_,?_,fun d hd=>?_⟩
 · rw [h.spl,List.length_append,List.length_reverse,e,List.length_append]
   simp
 · rw [h.spl,e,hq,hr,List.reverse_append]
   simp
 · rcases List.mem_append.1 hd with h1 | h1
   · exact h.lt d h1
   · simp at h1;omega
structure RvI (l:List Nat) (i:Nat) (o:List Nat):Prop where
 len:o.length=l.length
 at_:∀ j,j<l.length→lb o j=if j<i∨l.length-1-j<i then lb l (l.length-1-j) else lb l j
theorem RvI.step {l:List Nat} {i:Nat} {o:List Nat} (h:RvI l i o) (hi:i<l.length/2) (x y n:Nat) (hn:l.length=n) (hx:lb o i=x) (hy:lb o (n-1-i)=y):RvI l (i+1) ((o.set i y).set (n-1-i) x):=by
 subst hn
 have h1:=h.at_ i (by omega)
 have h2:=h.at_ (l.length-1-i) (by omega)
 rw [if_neg (by omega),hx] at h1
 rw [if_neg (by omega),hy] at h2
 refine ⟨by rw [List.length_set,List.length_set];exact h.len,fun j hj=>?_⟩
 rw [iN _ _ _ _ (by rw [List.length_set,h.len];omega),iN _ _ _ _ (by rw [h.len];omega)]
 by_cases e1:l.length-1-i=j
 · rw [if_pos e1,if_pos (by omega),h1]
   congr 1;omega
 · rw [if_neg e1]
   by_cases e2:i=j
   · rw [if_pos e2,if_pos (by omega),h2]
     congr 1;omega
   · rw [if_neg e2,h.at_ j hj]
     by_cases c:j<i∨l.length-1-j<i
     · rw [if_pos c,if_pos (by omega)]
     · rw [if_neg c,if_neg (by omega)]
theorem RvI.done {l:List Nat} {i:Nat} {o:List Nat} (h:RvI l i o) (hi:l.length/2=i):o=l.reverse:=by
 refine mP (by rw [h.len,List.length_reverse]) fun j hj=>?_
 have hj2:j<l.length:=by rw [← h.len];exact hj
 have e:lb l.reverse j=lb l (l.length-1-j):=by
  unfold lb
  rw [List.getElem?_reverse hj2]
 rw [h.at_ j hj2,e]
 by_cases c:j<i∨l.length-1-j<i
 · rw [if_pos c]
 · rw [if_neg c]
   congr 1;omega
end Go.Proofs.YtdpmbgomcjnohaaGreatDoor
/- The document's Count, Digits, Bare. -/
namespace Go.Proofs.YtdpmbgomcjnohaaGreatDoor
open Go.RowKit
set_option linter.unusedVariables false
set_option maxHeartbeats 400000
attribute [local go_sem ↓] fD
attribute [local go_sem] bL
def mk (S:ByteArray) (b:Nat):List Nat:=S.data.toList.map fun c=>c.toNat%b
end Go.Proofs.YtdpmbgomcjnohaaGreatDoor
/- The document: sums, products, order of dyadic numbers. -/
namespace Go.Proofs.YtdpmbgomcjnohaaGreatDoor
open Go.RowKit Rf
set_option linter.all false
set_option maxRecDepth 100000
set_option maxHeartbeats 8000000
def qQ (x:Rat):Prop:=∃ m e,Dy.dv m e=x
theorem qQ.den {x:Rat} (h:qQ x):∃ j:Nat,x.den=2^j:=by
 obtain ⟨m,e,rfl⟩:=h
 obtain ⟨j,hj,_⟩:=Dy.XP m e
 exact ⟨j,hj⟩
theorem qQ.mul {x y:Rat} (h:qQ x) (g:qQ y):qQ (x*y):=by
 obtain ⟨m,e,rfl⟩:=h
 obtain ⟨n,f,rfl⟩:=g
 exact ⟨m*n,e+f,Dy.PR m n e f⟩
theorem qQ.add {x y:Rat} (h:qQ x) (g:qQ y):qQ (x+y):=by
 obtain ⟨m,e,rfl⟩:=h
 obtain ⟨n,f,rfl⟩:=g
 exact ⟨_,_,Dy.Rc (g:=min e f) (by omega) (by omega)⟩
theorem qQ.neg {x:Rat} (h:qQ x):qQ (-x):=by
 obtain ⟨m,e,rfl⟩:=h
 exact ⟨-m,e,Dy.PO m e⟩
theorem qQ.sub {x y:Rat} (h:qQ x) (g:qQ y):qQ (x-y):=by rw [Rat.sub_eq_add_neg];exact h.add g.neg
theorem qQ.pow (n:Int):qQ ((2:Rat)^n):=⟨1,n,Rat.one_mul _⟩
theorem Dd.qQ {m e lo hi:Int} {x:Rat} {L:Nat} (h:Dd m e x L lo hi):qQ x:=⟨m,e,h.val⟩
theorem aS (w:World) (va vb:Value) (x y:Rat) (L L2:Nat) (lo hi lo2 hi2:Int) (ha:Dn w va x L lo hi) (hb:Dn w vb y L2 lo2 hi2) (hL:L≤1000000) (hL2:L2≤1000000) :
  Calls Tryz.prog 17 #[va,vb] w fun e w'=>e = .returned (.bool (decide (x=y)))∧Pl.Ex w w':=by
 obtain ⟨ma,ea,Aa,ca,rfl,ua,da⟩:=ha
 have yx:=da.lo
 have yz:=da.hi
 obtain ⟨mb,eb,Ab,cb,rfl,ub,db⟩:=hb
 have Ny:=db.lo
 have Nz:=db.hi
 refine Pl.aN (n:=17) (vs:=[.agg #[.bool (decide (ma<0)),.slice Aa (limbs (Int.natAbs ma)).length ca,.int .i64 ea],.agg #[.bool (decide (mb<0)),.slice Ab (limbs (Int.natAbs mb)).length cb,.int .i64 eb]]) Tryz.func17 rfl (by kernel_rfl) (by simp) ?_
 repeat refine Pl.af ?_
 refine Pl.ah (by kernel_rfl) ?_
 refine Pl.bF (cs:=[.bool (decide (ma<0)),.slice Aa (limbs (Int.natAbs ma)).length ca,.int .i64 ea]) rfl rfl rfl rfl rfl rfl (fun Y hY=>trivial) ?_
 intro N1 w1 hE1 bT ak
 have dP:=Pl.Cb.lt ak
 have jC:=Pl.Ex.size hE1
 refine Pl.bF (cs:=[.bool (decide (mb<0)),.slice Ab (limbs (Int.natAbs mb)).length cb,.int .i64 eb]) rfl rfl rfl rfl rfl rfl (fun Y hY=>trivial) ?_
 intro N2 w2 hE2 dU aA
 have iq:=Pl.Cb.lt aA
 have jM:=Pl.Ex.size hE2
 refine Pl.aG trivial rfl ?_
 refine Pl.aj ?_
 repeat refine Pl.af ?_
 refine Pl.ah (by kernel_rfl) ?_
 refine Pl.aL (.pointer (some ⟨N1,2,none⟩)) trivial rfl rfl rfl rfl (fun X=>by kernel_rfl) ?_
 refine Pl.bD (v:=.int .i64 ea) Tryz.underlying3 rfl (Pl.Cb.at (j:=2) (Pl.Cb.ex ak hE2) rfl) trivial rfl rfl rfl rfl rfl ?_
 refine Pl.aL (.pointer (some ⟨N2,2,none⟩)) trivial rfl rfl rfl rfl (fun X=>by kernel_rfl) ?_
 refine Pl.bD (v:=.int .i64 eb) Tryz.underlying3 rfl (Pl.Cb.at (j:=2) aA rfl) trivial rfl rfl rfl rfl rfl ?_
 by_cases c3:ea=eb
 · refine Pl.bP (v:=.bool true) (fun X=>ed c3 X) trivial rfl rfl rfl rfl rfl rfl ?_
   refine Pl.aG trivial rfl ?_
   refine Pl.aL (.pointer (some ⟨N1,0,none⟩)) trivial rfl rfl rfl rfl (fun X=>by kernel_rfl) ?_
   refine Pl.bg (part:=[.bool (decide (ma<0)),.slice Aa (limbs (Int.natAbs ma)).length ca]) (Pl.Cb.ex ak hE2) rfl Tryz.underlying24 rfl (by kernel_rfl) trivial rfl rfl rfl rfl rfl ?_
   refine Pl.aL (.pointer (some ⟨N2,0,none⟩)) trivial rfl rfl rfl rfl (fun X=>by kernel_rfl) ?_
   refine Pl.bg (part:=[.bool (decide (mb<0)),.slice Ab (limbs (Int.natAbs mb)).length cb]) aA rfl Tryz.underlying24 rfl (by kernel_rfl) trivial rfl rfl rfl rfl rfl ?_
   by_cases c4:ma=mb
   · refine Pl.ay rfl rfl rfl rfl rfl (fun u X=>Pl.enters Tryz.func43 (by kernel_rfl) rfl u X) ?_
     refine Calls.mono (Cu _ _ _ ma mb (Zn.of (Un.below ua (Pl.Ex.trans hE1 hE2))) (Zn.of (Un.below ub (Pl.Ex.trans hE1 hE2))) (Sz.le da.sz (by omega)) (Sz.le db.sz (by omega)) true (decide_eq_true c4)) ?_
     rintro e w3 ⟨rfl,aJ⟩
     have jX:=Pl.Ex.size aJ
     refine ⟨_,rfl,trivial,?_⟩
     refine Pl.aG trivial rfl ?_
     refine Pl.aj ?_
     repeat refine Pl.af ?_
     exact Pl.aZ rfl rfl  (⟨by rw [decide_eq_true (show x=y by rw [← da.val,← db.val,c4,c3])],(Pl.Ex.trans hE1 (Pl.Ex.trans hE2 aJ))⟩)
   · refine Pl.ay rfl rfl rfl rfl rfl (fun u X=>Pl.enters Tryz.func43 (by kernel_rfl) rfl u X) ?_
     refine Calls.mono (Cu _ _ _ ma mb (Zn.of (Un.below ua (Pl.Ex.trans hE1 hE2))) (Zn.of (Un.below ub (Pl.Ex.trans hE1 hE2))) (Sz.le da.sz (by omega)) (Sz.le db.sz (by omega)) false (decide_eq_false c4)) ?_
     rintro e w3 ⟨rfl,aJ⟩
     have jX:=Pl.Ex.size aJ
     refine ⟨_,rfl,trivial,?_⟩
     refine Pl.aG trivial rfl ?_
     refine Pl.aj ?_
     repeat refine Pl.af ?_
     exact Pl.aZ rfl rfl  (⟨by rw [decide_eq_false (fun h9=>c4 (Dy.IG da.can db.can (by rw [da.val,db.val,h9])).1)],(Pl.Ex.trans hE1 (Pl.Ex.trans hE2 aJ))⟩)
 · refine Pl.bP (v:=.bool false) (fun X=>jB c3 X) trivial rfl rfl rfl rfl rfl rfl ?_
   refine Pl.aG trivial rfl ?_
   refine Pl.aj ?_
   repeat refine Pl.af ?_
   exact Pl.aZ rfl rfl  (⟨by rw [decide_eq_false (fun h9=>c3 (Dy.IG da.can db.can (by rw [da.val,db.val,h9])).2)],(Pl.Ex.trans hE1 hE2)⟩)
end Go.Proofs.YtdpmbgomcjnohaaGreatDoor
/- The document: rounded to whole numbers. -/
namespace Go.Proofs.YtdpmbgomcjnohaaGreatDoor
open Go.RowKit Rf
set_option linter.all false
set_option maxRecDepth 100000
set_option maxHeartbeats 8000000
theorem j4 {v:Rat} {j:Nat} {z:Int} (h:j=4) (g:Dy.jT 4 v=z):Dy.jT j v=z:=by rw [h];exact g
end Go.Proofs.YtdpmbgomcjnohaaGreatDoor
