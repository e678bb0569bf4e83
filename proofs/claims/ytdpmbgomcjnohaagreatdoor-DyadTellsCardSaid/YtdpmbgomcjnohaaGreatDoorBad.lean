/- Sums and congruences, and what a transform of a power of 2 of numbers comes to: plain integers. -/
import Derived.Test.YtdpmbgomcjnohaaGreatDoorBac
import Derived.Deep.RegionHeld3
import Derived.Laws.Externs
import Derived.Laws.StructEq
import Derived.Laws.Cover2
import Derived.Laws.Tables
import Derived.Laws.Small

namespace Go.Proofs.YtdpmbgomcjnohaaGreatDoor
def sm (n:Nat) (f:Nat→Int):Int:=match n with
 | 0=>0
 | n+1=>sm n f+f n
theorem Gc (f:Nat→Int):sm 0 f=0:=rfl
theorem l9 (n:Nat) (f:Nat→Int):sm (n+1) f=sm n f+f n:=rfl
theorem Ym (f:Nat→Int):sm 1 f=f 0:=by rw [l9,Gc];omega
theorem Jd {n:Nat} {f g:Nat→Int} (h:∀ i,i<n→f i=g i):sm n f=sm n g:=by
 induction n with
 | zero=>rfl
 | succ n ih=>rw [l9,l9,ih fun i hi=>h i (by omega),h n (by omega)]
theorem K9 (n:Nat) (f g:Nat→Int):sm n (fun i=>f i+g i)=sm n f+sm n g:=by
 induction n with
 | zero=>rfl
 | succ n ih=>simp only [l9,ih];omega
theorem Yn (n:Nat) (c:Int) (f:Nat→Int):sm n (fun i=>c*f i)=c*sm n f:=by
 induction n with
 | zero=>simp [Gc]
 | succ n ih=>simp only [l9,ih];rw [Int.mul_add]
theorem M7 (n:Nat) (c:Int) (f:Nat→Int):sm n (fun i=>f i*c)=sm n f*c:=by
 rw [Int.mul_comm,← Yn];exact Jd fun i _=>Int.mul_comm _ _
theorem SB (m n:Nat) (f:Nat→Int):sm (m+n) f=sm m f+sm n (fun i=>f (m+i)):=by
 induction n with
 | zero=>rw [Nat.add_zero,Gc];omega
 | succ n ih=>rw [← Nat.add_assoc,l9,l9,ih];omega
theorem Lc (h:Nat) (f:Nat→Int):sm (2*h) f=sm h (fun i=>f i+f (h+i)):=by
 rw [show 2*h=h+h by omega,SB,K9]
def eX (p a b:Int):Prop:=∃ c,a=b+p*c
theorem eX.refl (p a:Int):eX p a a:=⟨0,by simp⟩
theorem eX.of_eq {p a b:Int} (h:a=b):eX p a b:=h ▸ eX.refl p a
theorem eX.symm {p a b:Int}:eX p a b→eX p b a:=fun ⟨c,h⟩=>⟨-c,by grind⟩
theorem eX.trans {p a b c:Int}:eX p a b→eX p b c→eX p a c:=fun ⟨x,h⟩ ⟨y,g⟩=>⟨x+y,by grind⟩
theorem eX.add {p a b c d:Int}:eX p a b→eX p c d→eX p (a+c) (b+d):=fun ⟨x,h⟩ ⟨y,g⟩=>⟨x+y,by grind⟩
theorem eX.sub {p a b c d:Int}:eX p a b→eX p c d→eX p (a-c) (b-d):=fun ⟨x,h⟩ ⟨y,g⟩=>⟨x-y,by grind⟩
theorem eX.mul {p a b c d:Int}:eX p a b→eX p c d→eX p (a*c) (b*d):=fun ⟨x,h⟩ ⟨y,g⟩=>⟨b*y+x*d+p*x*y,by grind⟩
theorem eX.pow {p a b:Int} (h:eX p a b) (n:Nat):eX p (a^n) (b^n):=by
 induction n with
 | zero=>rw [Int.pow_zero,Int.pow_zero];exact eX.refl _ _
 | succ n ih=>rw [Int.pow_succ,Int.pow_succ];exact ih.mul h
theorem eX.sm {p:Int} {n:Nat} {f g:Nat→Int} (h:∀ i,i<n→eX p (f i) (g i)):eX p (sm n f) (sm n g):=by
 induction n with
 | zero=>exact eX.refl _ _
 | succ n ih=>rw [l9,l9];exact (ih fun i hi=>h i (by omega)).add (h n (by omega))
theorem eX.mod (p a:Int):eX p (a%p) a:=⟨-(a/p),by have:=Int.emod_add_mul_ediv a p;grind⟩
theorem eX.emod {p a b:Int} (h:eX p a b):a%p=b%p:=by obtain ⟨c,rfl⟩:=h;rw [Int.add_mul_emod_self_left]
theorem eX.Ud {p a b:Int} (h:a%p=b%p):eX p a b:=((eX.mod p a).symm.trans (eX.of_eq h)).trans (eX.mod p b)
theorem eX.eq {p a b:Nat} (h:eX (p:Int) (a:Int) (b:Int)) (ha:a<p) (hb:b<p):a=b:=by
 have:=h.emod
 rw [Int.emod_eq_of_lt (by omega) (by omega),Int.emod_eq_of_lt (by omega) (by omega)] at this
 omega
theorem eX.zS (p a:Nat):eX (p:Int) ((a%p:Nat):Int) (a:Int):=by
 rw [Int.natCast_emod];exact eX.mod _ _
def rev:Nat→Nat→Nat
 | 0,_=>0
 | s+1,b=>rev s (b/2)+b%2*2^s
theorem Kn (s b:Nat):rev s b<2^s:=by
 induction s generalizing b with
 | zero=>simp [rev]
 | succ s ih=>have:=ih (b/2);simp only [rev,Nat.pow_succ];have:b%2<2:=Nat.mod_lt _ (by decide);rcases (show b%2=0∨b%2=1 by omega) with e | e<;>rw [e]<;>omega
theorem rev_succ (s b:Nat):rev (s+1) b=2*rev s b+b/2^s%2:=by
 induction s generalizing b with
 | zero=>simp [rev]
 | succ s ih =>
  rw [rev,ih (b/2)]
  show _=2*(rev s (b/2)+b%2*2^s)+_
  rw [Nat.div_div_eq_div_mul,← Nat.pow_succ',Nat.pow_succ]
  generalize b/(2^s*2)%2=x
  rcases (show b%2=0∨b%2=1 by omega) with e | e<;>rw [e]<;>omega
theorem Gd (s b _h:Nat) (hb:b<2^s):rev (s+1) b=2*rev s b:=by
 rw [rev_succ,Nat.div_eq_of_lt hb];omega
theorem Vj (s b c:Nat):rev s (b+2^s*c)=rev s b:=by
 induction s generalizing b c with
 | zero=>rfl
 | succ s ih =>
  have e1:(b+2^(s+1)*c)/2=b/2+2^s*c:=by rw [Nat.pow_succ',Nat.mul_assoc];omega
  have e2:(b+2^(s+1)*c)%2=b%2:=by rw [Nat.pow_succ',Nat.mul_assoc];omega
  rw [rev,rev,e1,e2,ih]
theorem Dg (s b:Nat) (hb:b<2^s):rev (s+1) (2^s+b)=2*rev s b+1:=by
 rw [rev_succ,show 2^s+b=b+2^s*1 by omega,Vj,Nat.add_mul_div_left _ _ (Nat.two_pow_pos s),Nat.div_eq_of_lt hb]
theorem Je (s b:Nat):rev (s+1) (2*b)=rev s b:=by
 rw [rev,show 2*b/2=b by omega,show 2*b%2=0 by omega];omega
theorem M8 (s b:Nat):rev (s+1) (2*b+1)=rev s b+2^s:=by
 rw [rev,show (2*b+1)/2=b by omega,show (2*b+1)%2=1 by omega];omega
theorem rev_rev (s b:Nat) (h:b<2^s):rev s (rev s b)=b:=by
 induction s generalizing b with
 | zero=>simp [rev] at *;omega
 | succ s ih =>
  rw [Nat.pow_succ] at h
  rcases (show b=2*(b/2)∨b=2*(b/2)+1 by omega) with e | e
  · rw [e,Je,Gd _ _ 0 (Kn _ _),ih _ (by omega)]
  · rw [e,M8,Nat.add_comm (rev s (b/2)),Dg _ _ (Kn _ _),ih _ (by omega)]
theorem pow_even {p u:Int} {n:Nat} (h:eX p (u^n) 1) (t:Nat):eX p (u^(n*t)) 1:=by
 rw [Int.pow_mul];have:=h.pow t;rwa [Int.one_pow] at this
end Go.Proofs.YtdpmbgomcjnohaaGreatDoor
/- Numbers modulo a prime, times 2^32, as Montgomery has them. -/
namespace Go.Proofs.YtdpmbgomcjnohaaGreatDoor
open Go.RowKit
set_option linter.unusedVariables false
set_option maxHeartbeats 400000
structure Fd where
 p:Nat
 root:Nat
 neg:Nat
 square:Nat
 ahead:Nat
 ri:Nat
abbrev Fd.V (f:Fd):Value:=.agg #[.int .u32 (f.p:Int),.int .u32 (f.root:Int),.int .u32 (f.neg:Int),.int .u32 (f.square:Int),.int .u32 (f.ahead:Int)]
structure Good (f:Fd):Prop where
 p0:1<f.p
 p1:f.p<1073741824
 n1:f.neg<4294967296
 neg:(f.neg*f.p+1)%4294967296=0
 ri:f.ri*4294967296%f.p=1
 rb:f.root<f.p
 sb:f.square<f.p
 sq:f.square=4294967296*4294967296%f.p
 ab:f.ahead<f.p
def mm (f:Fd) (x y:Nat):Nat:=x*y*f.ri%f.p
theorem OE (f:Fd) (hf:Good f) (x y:Nat):mm f x y<f.p:=Nat.mod_lt _ (by have:=hf.p0;omega)
def uE (f:Fd) (x:Nat):Nat:=x*4294967296%f.p
theorem Mr (f:Fd) (hf:Good f) (x:Nat):uE f x<f.p:=Nat.mod_lt _ (by have:=hf.p0;omega)
theorem Ck (a b p:Nat):a%p*b%p=a*b%p:=by rw [Nat.mul_mod,Nat.mod_mod,← Nat.mul_mod]
theorem Ti (f:Fd) (hf:Good f) (x y:Nat):mm f (uE f x) y=x*y%f.p:=by
 unfold mm uE
 rw [Nat.mul_assoc,Ck,show x*4294967296*(y*f.ri)=f.ri*4294967296*(x*y) by grind,← Ck,hf.ri,Nat.one_mul]
theorem Tg (f:Fd) (x y:Nat):mm f x y=mm f y x:=by unfold mm;rw [Nat.mul_comm x]
end Go.Proofs.YtdpmbgomcjnohaaGreatDoor
/- Powers modulo a prime; roots of 1. -/
namespace Go.Proofs.YtdpmbgomcjnohaaGreatDoor
open Go.RowKit
set_option linter.unusedVariables false
set_option maxHeartbeats 400000
def Bx (w:World) (B:Nat) (f:Fd):Prop:=B<w.heap.size∧w.cell? ⟨B,0,none⟩=some (.int .u32 (f.p:Int))∧w.cell? ⟨B,1,none⟩=some (.int .u32 (f.root:Int))∧w.cell? ⟨B,2,none⟩=some (.int .u32 (f.neg:Int))∧w.cell? ⟨B,3,none⟩=some (.int .u32 (f.square:Int))∧w.cell? ⟨B,4,none⟩=some (.int .u32 (f.ahead:Int))
theorem Bx.below {w w':World} {B C:Nat} {f:Fd} (h:Bx w B f) (hB:Below C w w') (hc:B<C):Bx w' B f:=by
 obtain ⟨h0,h1,h2,h3,h4,h5⟩:=h
 have hs:=hB.size
 have hc:=fun o=>hB.cell (p:=⟨B,o,none⟩) hc
 exact ⟨by omega,by rw [hc];exact h1,by rw [hc];exact h2,by rw [hc];exact h3,by rw [hc];exact h4,by rw [hc];exact h5⟩
theorem Bx.ext {w w':World} {B:Nat} {f:Fd} (h:Bx w B f) (hB:Ext w w'):Bx w' B f:=h.below hB h.1
theorem Bx.new (w:World) (f:Fd):Bx (w.alloc (.cells #[.int .u32 (f.p:Int),.int .u32 (f.root:Int),.int .u32 (f.neg:Int),.int .u32 (f.square:Int),.int .u32 (f.ahead:Int)] 158)) w.heap.size f:=by
 refine ⟨by simp,?_,?_,?_,?_,?_⟩<;>go_simp
def rt (f:Fd) (k:Nat):Nat:=f.root^((f.p-1)/2^k)
def bt (f:Fd) (k:Nat):Nat:=rt f k^(f.p-2)
def sh (f:Fd) (n:Nat):Nat:=n^(f.p-2)
end Go.Proofs.YtdpmbgomcjnohaaGreatDoor
/- The powers of a root that a transform wants. -/
namespace Go.Proofs.YtdpmbgomcjnohaaGreatDoor
open Go.RowKit
set_option linter.unusedVariables false
set_option maxHeartbeats 400000
structure Pw (f:Fd) (k W:Nat) (o:List Nat):Prop where
 len:o.length=2^k
 lt:∀ x∈o,x<f.p
 at_:∀ s j,s<k→j<2^s→lb o (2^s+j)=uE f (W^(2^(k-1-s)*j))
structure Uc (f:Fd) (n h W j:Nat) (o:List Nat):Prop where
 len:o.length=n
 lt:∀ x∈o,x<f.p
 at_:∀ i,i<j→lb o (h+i)=uE f (W^i)
theorem Uc.step {f:Fd} (hf:Good f) {n h W j:Nat} {o:List Nat} (H:Uc f n h W j o) (hj:h+j<n):Uc f n h W (j+1) (o.set (h+j) (uE f (W^j))):=by
 refine ⟨by simp [H.len],dY H.lt (Mr f hf _),fun i hi=>?_⟩
 rw [iN _ _ _ _ (by rw [H.len];exact hj)]
 by_cases e:i=j
 · subst e;rw [if_pos rfl]
 · rw [if_neg (by omega)];exact H.at_ i (by omega)
structure Qx (f:Fd) (n h W i:Nat) (o:List Nat):Prop where
 up:Uc f n h W h o
 dn:∀ m,i<m→m<h→lb o m=lb o (2*m)
theorem Qx.step {f:Fd} {n h W i:Nat} {o:List Nat} (H:Qx f n h W i o) (hi:0<i) (hih:i<h) (hn:n=2*h):Qx f n h W (i-1) (o.set i (lb o (2*i))):=by
 have hl:=H.up.len
 have hlt:lb o (2*i)<f.p:=by
  have hm:lb o (2*i)∈o:=by
   unfold lb;rw [List.getElem?_eq_getElem (by omega)];exact List.getElem_mem _
  exact H.up.lt _ hm
 refine ⟨⟨by simp [hl],dY H.up.lt hlt,fun j hj=>?_⟩,fun m h1 h2=>?_⟩
 · rw [iN _ _ _ _ (by omega),if_neg (by omega)];exact H.up.at_ j hj
 · rw [iN _ _ _ _ (by omega),iN _ _ _ _ (by omega),if_neg (show ¬ i=2*m by omega)]
   by_cases e:i=m
   · rw [if_pos e,e]
   · rw [if_neg e];exact H.dn m (by omega) h2
theorem Qx.done {f:Fd} {k W:Nat} {o:List Nat} (H:Qx f (2^(k+1)) (2^k) W 0 o):Pw f (k+1) W o:=by
 refine ⟨H.up.len,H.up.lt,fun s j hs hj=>?_⟩
 have key : ∀ d s j,s+d=k→j<2^s→lb o (2^s+j)=uE f (W^(2^d*j)):=by
  intro d
  induction d with
  | zero => intro s j hs hj;obtain rfl:s=k:=by omega
            rw [H.up.at_ j hj,Nat.pow_zero,Nat.one_mul]
  | succ d ih =>
   intro s j hs hj
   have h1:2^s+j<2^k:=by
    have:2^(s+1)≤2^k:=Nat.pow_le_pow_right (by decide) (by omega)
    rw [Nat.pow_succ] at this;omega
   rw [H.dn _ (by have:=Nat.two_pow_pos s;omega) h1,show 2*(2^s+j)=2^(s+1)+2*j by rw [Nat.pow_succ];omega,ih (s+1) (2*j) (by omega) (by rw [Nat.pow_succ];omega)]
   congr 2;rw [Nat.pow_succ,Nat.mul_assoc]
 exact key (k+1-1-s) s j (by omega) hj
theorem Pw.one (f:Fd) (hf:Good f) (W:Nat) (o:List Nat) (h:o.length=1) (hl:∀ x∈o,x<f.p):Pw f 0 W o:=⟨h,hl,fun s j hs _=>by omega⟩
end Go.Proofs.YtdpmbgomcjnohaaGreatDoor
/- Transforms by halves, downward and upward, and what they undo. -/
namespace Go.Proofs.YtdpmbgomcjnohaaGreatDoor
def Rt (p w:Int) (k:Nat):Prop:=eX p (w^2^k) 1∧(0<k→eX p (w^2^(k-1)) (-1))
def YC (w:Int) (n:Nat) (l:Nat→Int) (q:Nat):Int:=sm n fun i=>l i*w^(i*q)
def Down (p w:Int) (k s:Nat) (l o:Nat→Int):Prop :=
 s≤k∧∀ b t,b<2^(k-s)→t<2^s→eX p (sm (2^s) fun j=>o (b*2^s+j)*w^(2^(k-s)*(j*t))) (YC w (2^k) l (rev (k-s) b+2^(k-s)*t))
theorem pq {p w:Int} {m:Nat} (h:eX p (w^m) 1) (x t:Nat):eX p (w^(x+m*t)) (w^x):=by
 have:=(eX.refl p (w^x)).mul (pow_even h t)
 rwa [Int.mul_one,← Int.pow_add] at this
theorem Down.step {p w:Int} {k s:Nat} {l o o':Nat→Int} (hr:Rt p w k) (h:Down p w k (s+1) l o)
  (h0:∀ b j,b<2^(k-(s+1))→j<2^s→eX p (o' (b*2^(s+1)+j)) (o (b*2^(s+1)+j)+o (b*2^(s+1)+2^s+j)))
  (h1:∀ b j,b<2^(k-(s+1))→j<2^s→eX p (o' (b*2^(s+1)+2^s+j)) ((o (b*2^(s+1)+j)-o (b*2^(s+1)+2^s+j))*w^(2^(k-(s+1))*j))) :
  Down p w k s l o':=by
 obtain ⟨hsk,hd⟩:=h
 have ek:k-s=k-(s+1)+1:=by omega
 refine ⟨by omega,fun b t hb ht=>?_⟩
 rw [ek] at hb ⊢
 have hm:2^(k-(s+1)+1)=2*2^(k-(s+1)):=Nat.pow_succ'
 have hkk:2^(k-(s+1))*2^s*2=2^k:=by rw [← Nat.pow_add,← Nat.pow_succ];congr 1;omega
 have hone:eX p (w^(2^(k-(s+1))*2^s*2)) 1:=by rw [hkk];exact hr.1
 have hneg:eX p (w^(2^(k-(s+1))*2^s)) (-1):=by
  have:=hr.2 (by omega)
  rwa [show 2^(k-1)=2^(k-(s+1))*2^s by rw [← Nat.pow_add];congr 1;omega] at this
 have hs2:2^(s+1)=2*2^s:=Nat.pow_succ'
 generalize hM:2^(k-(s+1))=M at *
 rw [hm] at hb ⊢
 rcases (show b=2*(b/2)∨b=2*(b/2)+1 by omega) with e | e
 · generalize b/2=c at e
   subst e
   have g:=hd c (2*t) (by omega) (by omega)
   rw [hs2,Lc] at g
   rw [Je,show 2*M*t=M*(2*t) by rw [Nat.mul_comm 2 M,Nat.mul_assoc]]
   refine eX.trans (eX.sm fun j hj=>?_) g
   have a:=h0 c j (by omega) hj
   rw [hs2] at a
   rw [show 2*c*2^s+j=c*(2*2^s)+j by rw [Nat.mul_comm 2 c,Nat.mul_assoc]]
   refine (a.mul (eX.refl p _)).trans ?_
   rw [Int.add_mul]
   refine eX.add (eX.of_eq (by congr 2;grind)) ?_
   rw [← Nat.add_assoc]
   refine (eX.refl p _).mul ?_
   have:=(pq hone (M*(j*(2*t))) t).symm
   rw [show 2*M*(j*t)=M*(j*(2*t)) by grind]
   rwa [show M*(j*(2*t))+M*2^s*2*t=M*((2^s+j)*(2*t)) by grind] at this
 · generalize b/2=c at e
   subst e
   have g:=hd c (2*t+1) (by omega) (by omega)
   rw [hs2,Lc] at g
   rw [M8,hM,show rev (k-(s+1)) c+M+2*M*t=rev (k-(s+1)) c+M*(2*t+1) by grind]
   refine eX.trans (eX.sm fun j hj=>?_) g
   have a:=h1 c j (by omega) hj
   rw [hs2] at a
   rw [show (2*c+1)*2^s+j=c*(2*2^s)+2^s+j by grind]
   refine (a.mul (eX.refl p _)).trans ?_
   rw [Int.mul_assoc,← Int.pow_add,Int.sub_mul,Int.sub_eq_add_neg]
   refine eX.add (eX.of_eq (by congr 2;grind)) ?_
   rw [← Nat.add_assoc]
   have e1:eX p (w^(M*((2^s+j)*(2*t+1)))) (-(w^(M*j+2*M*(j*t)))):=by
    rw [show M*((2^s+j)*(2*t+1))=M*2^s+(M*j+2*M*(j*t))+M*2^s*2*t by grind]
    refine (pq hone _ t).trans ?_
    rw [Int.pow_add]
    have:=hneg.mul (eX.refl p (w^(M*j+2*M*(j*t))))
    rwa [Int.neg_mul,Int.one_mul] at this
   have:=(eX.refl p (o (c*(2*2^s)+2^s+j))).mul e1
   rw [Int.mul_neg] at this
   exact this.symm
theorem Down.done {p w:Int} {k:Nat} {l o:Nat→Int} (h:Down p w k 0 l o) (b:Nat) (hb:b<2^k):eX p (o b) (YC w (2^k) l (rev k b)):=by
 have:=h.2 b 0 (by simpa using hb) (by simp)
 simpa [Ym] using this
def Up (p v:Int) (k s:Nat) (F o:Nat→Int):Prop :=
 s≤k∧∀ b j,b<2^(k-s)→j<2^s→eX p (o (b*2^s+j)) (sm (2^s) fun t=>F (b*2^s+t)*v^(2^(k-s)*(j*rev s t)))
theorem Up.step {p v:Int} {k s:Nat} {F o o':Nat→Int} (hr:Rt p v k) (hsk:s+1≤k) (h:Up p v k s F o)
  (h0:∀ b j,b<2^(k-(s+1))→j<2^s→eX p (o' (b*2^(s+1)+j)) (o (b*2^(s+1)+j)+o (b*2^(s+1)+2^s+j)*v^(2^(k-(s+1))*j)))
  (h1:∀ b j,b<2^(k-(s+1))→j<2^s→eX p (o' (b*2^(s+1)+2^s+j)) (o (b*2^(s+1)+j)-o (b*2^(s+1)+2^s+j)*v^(2^(k-(s+1))*j))) :
  Up p v k (s+1) F o':=by
 obtain ⟨_,hd⟩:=h
 have ek:k-s=k-(s+1)+1:=by omega
 refine ⟨by omega,fun b j hb hj=>?_⟩
 rw [ek] at hd
 have hm:2^(k-(s+1)+1)=2*2^(k-(s+1)):=Nat.pow_succ'
 have hkk:2^(k-(s+1))*2^s*2=2^k:=by rw [← Nat.pow_add,← Nat.pow_succ];congr 1;omega
 have hone:eX p (v^(2^(k-(s+1))*2^s*2)) 1:=by rw [hkk];exact hr.1
 have hneg:eX p (v^(2^(k-(s+1))*2^s)) (-1):=by
  have:=hr.2 (by omega)
  rwa [show 2^(k-1)=2^(k-(s+1))*2^s by rw [← Nat.pow_add];congr 1;omega] at this
 have hs2:2^(s+1)=2*2^s:=Nat.pow_succ'
 generalize hM:2^(k-(s+1))=M at *
 rw [hm] at hd
 rw [hs2,Lc]
 have low:∀ i,i<2^s→eX p (o (b*(2*2^s)+i)) (sm (2^s) fun t=>F (b*(2*2^s)+t)*v^(2*M*(i*rev s t))):=fun i hi=>by
  have:=hd (2*b) i (by omega) hi
  rwa [show 2*b*2^s=b*(2*2^s) by grind] at this
 have high:∀ i,i<2^s→eX p (o (b*(2*2^s)+2^s+i)) (sm (2^s) fun t=>F (b*(2*2^s)+2^s+t)*v^(2*M*(i*rev s t))):=fun i hi=>by
  have:=hd (2*b+1) i (by omega) hi
  rwa [show (2*b+1)*2^s=b*(2*2^s)+2^s by grind] at this
 rw [hs2] at h0 h1 hj
 by_cases hj2:j<2^s
 · refine (h0 b j hb hj2).trans ?_
   refine (eX.add (low j hj2) ((high j hj2).mul (eX.refl p _))).trans (eX.of_eq ?_)
   rw [← M7,← K9]
   refine Jd fun t ht=>?_
   rw [Gd _ _ 0 ht,Dg _ _ ht,Int.mul_assoc,← Int.pow_add]
   congr 1
   · congr 2;grind
   · rw [Nat.add_assoc];congr 2;grind
 · obtain ⟨i,rfl⟩:∃ i,j=2^s+i:=⟨j-2^s,by omega⟩
   have hi:i<2^s:=by omega
   have:=(h1 b i hb hi).trans (eX.sub (low i hi) ((high i hi).mul (eX.refl p _)))
   rw [← Nat.add_assoc]
   refine this.trans ?_
   rw [Int.sub_eq_add_neg,← Int.mul_neg,← M7,← K9]
   refine eX.sm fun t ht=>?_
   rw [Gd _ _ 0 ht,Dg _ _ ht,Int.mul_assoc]
   refine eX.add ((eX.refl p _).mul ?_) ?_
   · have:=(pq hone (2*M*(i*rev s t)) (rev s t)).symm
     rwa [show 2*M*(i*rev s t)+M*2^s*2*rev s t=M*((2^s+i)*(2*rev s t)) by grind] at this
   · rw [← Nat.add_assoc]
     refine (eX.refl p _).mul ?_
     rw [show M*((2^s+i)*(2*rev s t+1))=M*2^s+(2*M*(i*rev s t)+M*i)+M*2^s*2*rev s t by grind]
     refine eX.trans ?_ (pq hone _ _).symm
     rw [Int.pow_add v (M*2^s)]
     have:=(hneg.mul (eX.refl p (v^(2*M*(i*rev s t)+M*i)))).symm
     rw [Int.neg_mul,Int.one_mul,Int.pow_add] at this
     rw [Int.mul_neg]
     rw [Int.pow_add]
     exact this
theorem Up.done {p v:Int} {k:Nat} {F o:Nat→Int} (h:Up p v k k F o) (j:Nat) (hj:j<2^k):eX p (o j) (sm (2^k) fun t=>F t*v^(j*rev k t)):=by
 have:=h.2 0 j (by simp) hj
 simpa using this
end Go.Proofs.YtdpmbgomcjnohaaGreatDoor
/- What the rounds of a transform in its place come to. -/
namespace Go.Proofs.YtdpmbgomcjnohaaGreatDoor
set_option linter.unusedVariables false
def stp (f:Fd) (pw:List Nat) (h a j:Nat) (o:List Nat):List Nat :=
 (o.set (a+j) ((lb o (a+j)+lb o (a+h+j))%f.p)).set (a+h+j) (mm f (lb o (a+j)+f.p-lb o (a+h+j)) (lb pw (h+j)))
def stu (f:Fd) (pw:List Nat) (h a j:Nat) (o:List Nat):List Nat :=
 (o.set (a+j) ((lb o (a+j)+mm f (lb o (a+h+j)) (lb pw (h+j)))%f.p)).set (a+h+j) ((lb o (a+j)+f.p-mm f (lb o (a+h+j)) (lb pw (h+j)))%f.p)
def Oq (st:Nat→Nat→List Nat→List Nat) (a:Nat):Nat→List Nat→List Nat
 | 0,o=>o
 | j+1,o=>st a j (Oq st a j o)
def mid (st:Nat→Nat→List Nat→List Nat) (h:Nat):Nat→List Nat→List Nat
 | 0,o=>o
 | b+1,o=>Oq st (b*(2*h)) h (mid st h b o)
structure Wl (st:Nat→Nat→List Nat→List Nat) (h n p:Nat) (F G:Nat→Nat→Nat→Nat):Prop where
 len:∀ a j o,(st a j o).length=o.length
 lt:∀ a j o,(∀ x∈o,x<p)→∀ x∈st a j o,x<p
 eq:∀ a j o,o.length=n→j<h→a+2*h≤n→∀ i,lb (st a j o) i=if i=a+h+j then G j (lb o (a+j)) (lb o (a+h+j)) else if i=a+j then F j (lb o (a+j)) (lb o (a+h+j)) else lb o i
theorem OD (f:Fd) (hf:Good f) (pw:List Nat) (h n:Nat):Wl (stp f pw h) h n f.p (fun _ x y=>(x+y)%f.p) (fun j x y=>mm f (x+f.p-y) (lb pw (h+j))):=by
 have p0:=hf.p0
 refine ⟨fun a j o=>by simp [stp],fun a j o ho=>dY (dY ho (Nat.mod_lt _ (by omega))) (OE f hf _ _),fun a j o hl hj ha i=>?_⟩
 unfold stp
 rw [iN _ _ _ _ (by simp;omega),iN _ _ _ _ (by omega)]
 by_cases e:a+h+j=i
 · rw [if_pos e,if_pos e.symm]
 · rw [if_neg e,if_neg (Ne.symm e)]
   by_cases e2:a+j=i
   · rw [if_pos e2,if_pos e2.symm]
   · rw [if_neg e2,if_neg (Ne.symm e2)]
theorem OG (f:Fd) (hf:Good f) (pw:List Nat) (h n:Nat):Wl (stu f pw h) h n f.p (fun j x y=>(x+mm f y (lb pw (h+j)))%f.p) (fun j x y=>(x+f.p-mm f y (lb pw (h+j)))%f.p):=by
 have p0:=hf.p0
 refine ⟨fun a j o=>by simp [stu],fun a j o ho=>dY (dY ho (Nat.mod_lt _ (by omega))) (Nat.mod_lt _ (by omega)),fun a j o hl hj ha i=>?_⟩
 unfold stu
 rw [iN _ _ _ _ (by simp;omega),iN _ _ _ _ (by omega)]
 by_cases e:a+h+j=i
 · rw [if_pos e,if_pos e.symm]
 · rw [if_neg e,if_neg (Ne.symm e)]
   by_cases e2:a+j=i
   · rw [if_pos e2,if_pos e2.symm]
   · rw [if_neg e2,if_neg (Ne.symm e2)]
section
variable {st:Nat→Nat→List Nat→List Nat} {h n p:Nat} {F G:Nat→Nat→Nat→Nat} (H:Wl st h n p F G)
include H
theorem Lv (a j:Nat) (o:List Nat):(Oq st a j o).length=o.length:=by
 induction j with
 | zero=>rfl
 | succ j ih=>rw [Oq,H.len,ih]
theorem Wm (a j:Nat) (o:List Nat) (ho:∀ x∈o,x<p):∀ x∈Oq st a j o,x<p:=by
 induction j with
 | zero=>exact ho
 | succ j ih=>rw [Oq];exact H.lt _ _ _ ih
theorem Wn (a j:Nat) (o:List Nat) (hl:o.length=n) (hj:j≤h) (ha:a+2*h≤n) :
  (∀ i,i<j→lb (Oq st a j o) (a+i)=F i (lb o (a+i)) (lb o (a+h+i))∧lb (Oq st a j o) (a+h+i)=G i (lb o (a+i)) (lb o (a+h+i))) ∧
  (∀ i,((i<a∨a+2*h≤i)∨(∃ m,j≤m∧m<h∧(i=a+m∨i=a+h+m)))→lb (Oq st a j o) i=lb o i):=by
 induction j with
 | zero=>exact ⟨fun i hi=>by omega,fun i _=>rfl⟩
 | succ j ih =>
  obtain ⟨h1,h2⟩:=ih (by omega)
  have hn:=Lv H a j o
  have e:=H.eq a j (Oq st a j o) (by omega) (by omega) ha
  rw [h2 (a+j) (.inr ⟨j,by omega,by omega,.inl rfl⟩),h2 (a+h+j) (.inr ⟨j,by omega,by omega,.inr rfl⟩)] at e
  refine ⟨fun i hi=>?_,fun i hi=>?_⟩
  · rw [Oq,e,e,if_neg (by omega)]
    by_cases ei:i=j
    · subst ei;rw [if_pos rfl,if_pos rfl];exact ⟨rfl,rfl⟩
    · rw [if_neg (by omega),if_neg (by omega),if_neg (by omega)];exact h1 i (by omega)
  · rw [Oq,e]
    rw [if_neg (by rcases hi with hi | ⟨m,h3,h4,h5⟩<;>omega),if_neg (by rcases hi with hi | ⟨m,h3,h4,h5⟩<;>omega)]
    exact h2 i (by rcases hi with hi | ⟨m,h3,h4,h5⟩;exact .inl hi;exact .inr ⟨m,by omega,h4,h5⟩)
theorem ED (b:Nat) (o:List Nat):(mid st h b o).length=o.length:=by
 induction b with
 | zero=>rfl
 | succ b ih=>rw [mid,Lv H,ih]
theorem OH (b:Nat) (o:List Nat) (ho:∀ x∈o,x<p):∀ x∈mid st h b o,x<p:=by
 induction b with
 | zero=>exact ho
 | succ b ih=>rw [mid];exact Wm H _ _ _ ih
theorem OI (b:Nat) (o:List Nat) (hl:o.length=n) (hb:b*(2*h)≤n) :
  (∀ c i,c<b→i<h→lb (mid st h b o) (c*(2*h)+i)=F i (lb o (c*(2*h)+i)) (lb o (c*(2*h)+h+i))∧lb (mid st h b o) (c*(2*h)+h+i)=G i (lb o (c*(2*h)+i)) (lb o (c*(2*h)+h+i))) ∧
  (∀ i,b*(2*h)≤i→lb (mid st h b o) i=lb o i):=by
 induction b with
 | zero=>exact ⟨fun c i hc=>by omega,fun i _=>rfl⟩
 | succ b ih =>
  rw [Nat.add_mul,Nat.one_mul] at hb
  obtain ⟨h1,h2⟩:=ih (by omega)
  obtain ⟨g1,g2⟩:=Wn H (b*(2*h)) h (mid st h b o) (by rw [ED H,hl]) (Nat.le_refl _) hb
  refine ⟨fun c i hc hi=>?_,fun i hi=>?_⟩
  · rw [mid]
    by_cases e:c=b
    · subst e
      rw [(g1 i hi).1,(g1 i hi).2,h2 _ (by omega),h2 _ (by omega)]
      exact ⟨rfl,rfl⟩
    · have:(c+1)*(2*h)≤b*(2*h):=Nat.mul_le_mul_right _ (by omega)
      rw [Nat.add_mul,Nat.one_mul] at this
      rw [g2 _ (.inl (.inl (by omega))),g2 _ (.inl (.inl (by omega)))]
      exact h1 c i (by omega) hi
  · rw [Nat.add_mul,Nat.one_mul] at hi
    rw [mid,g2 _ (.inl (.inr hi)),h2 _ (by omega)]
end
theorem rF (f:Fd) (hf:Good f) (x y:Nat):eX (f.p:Int) ((mm f x (uE f y):Nat):Int) ((x:Int)*(y:Int)):=by
 rw [Tg,Ti f hf,Nat.mul_comm,← Int.natCast_mul];exact eX.zS _ _
theorem Lx (p x y:Nat):eX (p:Int) (((x+y)%p:Nat):Int) ((x:Int)+(y:Int)):=by
 rw [← Int.natCast_add];exact eX.zS _ _
theorem LA (p x y:Nat) (hy:y≤p):eX (p:Int) ((x+p-y:Nat):Int) ((x:Int)-(y:Int)):=⟨1,by omega⟩
def seq (l:List Nat) (i:Nat):Int:=((lb l i:Nat):Int)
structure LC (f:Fd) (k W:Nat) (l:List Nat) (s:Nat) (o:List Nat):Prop where
 len:o.length=2^k
 lt:∀ x∈o,x<f.p
 down:Down f.p W k s (seq l) (seq o)
theorem LC.step {f:Fd} (hf:Good f) {k W:Nat} {l:List Nat} {s:Nat} {o pw:List Nat} (hr:Rt f.p W k) (hp:Pw f k W pw) (H:LC f k W l (s+1) o) (hs:s+1≤k) :
  LC f k W l s (mid (stp f pw (2^s)) (2^s) (2^(k-(s+1))) o):=by
 have P:=OD f hf pw (2^s) (2^k)
 have hk:2^(k-(s+1))*(2*2^s)=2^k:=by rw [← Nat.pow_succ',← Nat.pow_add];congr 1;omega
 obtain ⟨e1,e2⟩:=OI P (2^(k-(s+1))) o H.len (by omega)
 refine ⟨by rw [ED P,H.len],OH P _ _ H.lt,H.down.step hr (fun b j hb hj=>?_) (fun b j hb hj=>?_)⟩
 · unfold seq
   rw [Nat.pow_succ',(e1 b j hb hj).1]
   exact Lx _ _ _
 · unfold seq
   rw [Nat.pow_succ',(e1 b j hb hj).2,hp.at_ s j (by omega) hj]
   refine (rF f hf _ _).trans (eX.mul (LA _ _ _ (Nat.le_of_lt (dh (by have:=hf.p0;omega) H.lt _))) (eX.of_eq ?_))
   rw [Int.natCast_pow,show k-1-s=k-(s+1) by omega]
structure UpL (f:Fd) (k V:Nat) (l:List Nat) (s:Nat) (o:List Nat):Prop where
 len:o.length=2^k
 lt:∀ x∈o,x<f.p
 up:Up f.p V k s (seq l) (seq o)
theorem UpL.step {f:Fd} (hf:Good f) {k V:Nat} {l:List Nat} {s:Nat} {o pw:List Nat} (hr:Rt f.p V k) (hp:Pw f k V pw) (H:UpL f k V l s o) (hs:s+1≤k) :
  UpL f k V l (s+1) (mid (stu f pw (2^s)) (2^s) (2^(k-(s+1))) o):=by
 have P:=OG f hf pw (2^s) (2^k)
 have hk:2^(k-(s+1))*(2*2^s)=2^k:=by rw [← Nat.pow_succ',← Nat.pow_add];congr 1;omega
 obtain ⟨e1,e2⟩:=OI P (2^(k-(s+1))) o H.len (by omega)
 have hpw:∀ x j,j<2^s→eX (f.p:Int) ((mm f x (lb pw (2^s+j)):Nat):Int) ((x:Int)*(V:Int)^(2^(k-(s+1))*j)):=fun x j hj=>by
  rw [hp.at_ s j (by omega) hj]
  refine (rF f hf _ _).trans (eX.of_eq ?_)
  rw [Int.natCast_pow,show k-1-s=k-(s+1) by omega]
 refine ⟨by rw [ED P,H.len],OH P _ _ H.lt,H.up.step hr hs (fun b j hb hj=>?_) (fun b j hb hj=>?_)⟩
 · unfold seq
   rw [Nat.pow_succ',(e1 b j hb hj).1]
   exact (Lx _ _ _).trans ((eX.refl _ _).add (hpw _ j hj))
 · unfold seq
   rw [Nat.pow_succ',(e1 b j hb hj).2]
   exact (eX.zS _ _).trans ((LA _ _ _ (Nat.le_of_lt (OE f hf _ _))).trans ((eX.refl _ _).sub (hpw _ j hj)))
end Go.Proofs.YtdpmbgomcjnohaaGreatDoor
/- A transform in its place, on the way down. -/
namespace Go.Proofs.YtdpmbgomcjnohaaGreatDoor
open Go.RowKit
set_option linter.unusedVariables false
set_option maxHeartbeats 400000
def But (g:Nat) (a b:World):Prop:=a.grownBy b (some g)
theorem But.refl (g:Nat) (w:World):But g w w:=World.grownBy.refl w _
theorem But.trans {g:Nat} {a b c:World} (h:But g a b) (k:But g b c):But g a c :=
 ⟨k.os.trans h.os,k.tape.trans h.tape,k.output.trans h.output,Nat.le_trans h.size k.size,fun i hi hne=>(k.block i (Nat.lt_of_lt_of_le hi h.size) hne).trans (h.block i hi hne)⟩
theorem But.ext {g:Nat} {a b c:World} (h:But g a b) (k:Ext b c):But g a c :=
 h.trans ⟨k.os,k.tape,k.output,k.size,fun i hi _=>k.block i hi⟩
theorem But.setCell {g:Nat} {a b:World} (h:But g a b) (j:Nat) (v:Value):But g a (b.setCell ⟨g,j,none⟩ v) :=
 h.trans ⟨rfl,rfl,rfl,by simp [World.setCell],fun i hi hne=>Below.heap_setCell _ _ _ _ (fun e=>hne (by rw [e]))⟩
theorem But.drew {g:Nat} {a b:World} (h:But g a b):But g a b.drew:=⟨h.os,h.tape,h.output,h.size,h.block⟩
theorem But.below {g B:Nat} {a b:World} (h:But g a b) (hB:B≤g) (ha:B≤a.heap.size):Below B a b :=
 ⟨h.os,h.tape,h.output,h.size,fun i hi=>h.block i (by omega) (fun e=>by injection e;omega)⟩
theorem But.cell {g:Nat} {a b:World} (h:But g a b) {p:Addr} (hp:p.block<a.heap.size) (hne:p.block≠g):b.cell? p=a.cell? p:=World.cell?_of_block (h.block _ hp (fun e=>hne (by injection e)))
def Rd (w:World) (q:Nat) (pw:List Nat):Prop:=q<w.heap.size∧∀ j,j<pw.length→w.cell? ⟨q,j,none⟩=some (.int .u32 (lb pw j:Nat))
theorem Own.rd {w:World} {base q n c:Nat} {o:List Nat} (h:Own w base (.slice (some ⟨q,0,none⟩) n c) o):Rd w q o:=by
 obtain ⟨e,_,_⟩:=h.caps
 subst e
 exact ⟨h.block.2,fun j hj=>h.cell hj⟩
theorem Own.frozen' {w:World} {base g n c:Nat} {o:List Nat} (h:Own w base (.slice (some ⟨g,0,none⟩) n c) o) (j:Nat):w.frozen? ⟨g,j,none⟩=false:=by
 obtain ⟨e,_,_⟩:=h.caps
 subst e
 exact h.frozen j
theorem Own.ext {w w':World} {base g n c:Nat} {o:List Nat} (h:Own w base (.slice (some ⟨g,0,none⟩) n c) o) (hB:Ext w w'):Own w' base (.slice (some ⟨g,0,none⟩) n c) o :=
 h.below hB (fun g' hg=>by injection hg with hg;subst hg;exact h.block.2)
theorem Own.set' {w:World} {base g n c:Nat} {o:List Nat} (h:Own w base (.slice (some ⟨g,0,none⟩) n c) o) (j x:Nat):Own (w.setCell ⟨g,j,none⟩ (.int .u32 (x:Nat))) base (.slice (some ⟨g,0,none⟩) n c) (o.set j x):=by
 obtain ⟨e,_,_⟩:=h.caps
 subst e
 have:=h.nO j x
 rwa [List.length_set] at this
end Go.Proofs.YtdpmbgomcjnohaaGreatDoor
/- Bits turned round. -/
namespace Go.Proofs.YtdpmbgomcjnohaaGreatDoor
open Go.RowKit
set_option linter.unusedVariables false
set_option maxHeartbeats 400000
theorem m1 (j:Nat) (h:j<32):Nat.testBit 1431655765 j=(j%2==0):=(by decide:∀ j:Fin 32,Nat.testBit 1431655765 j.1=(j.1%2==0)) ⟨j,h⟩
theorem m2 (j:Nat) (h:j<32):Nat.testBit 858993459 j=decide (j%4<2):=(by decide:∀ j:Fin 32,Nat.testBit 858993459 j.1=decide (j.1%4<2)) ⟨j,h⟩
theorem m3 (j:Nat) (h:j<32):Nat.testBit 252645135 j=decide (j%8<4):=(by decide:∀ j:Fin 32,Nat.testBit 252645135 j.1=decide (j.1%8<4)) ⟨j,h⟩
theorem m4 (j:Nat) (h:j<32):Nat.testBit 16711935 j=decide (j%16<8):=(by decide:∀ j:Fin 32,Nat.testBit 16711935 j.1=decide (j.1%16<8)) ⟨j,h⟩
end Go.Proofs.YtdpmbgomcjnohaaGreatDoor
/- Numbers put where their places' bits, turned round, say. -/
namespace Go.Proofs.YtdpmbgomcjnohaaGreatDoor
open Go.RowKit
set_option linter.unusedVariables false
set_option maxHeartbeats 400000
structure Sw (k p i:Nat) (l o:List Nat):Prop where
 len:o.length=2^k
 lt:∀ x∈o,x<p
 at_:∀ j,j<2^k→lb o j=if j<i∨rev k j<i then lb l (rev k j) else lb l j
theorem Sw.keep {k p i:Nat} {l o:List Nat} (H:Sw k p i l o) (hi:i<2^k) (h:rev k i≤i):Sw k p (i+1) l o:=by
 refine ⟨H.len,H.lt,fun j hj=>?_⟩
 rw [H.at_ j hj]
 by_cases e:j=i
 · subst e
   rw [if_pos (show j<j+1∨_ by omega)]
   by_cases e2:rev k j<j
   · rw [if_pos (.inr e2)]
   · rw [show rev k j=j by omega];simp
 · by_cases e2:rev k j=i
   · have hji:j=rev k i:=by rw [← e2,rev_rev k j hj]
     rw [if_pos (.inl (by omega)),if_pos (.inl (by omega))]
   · by_cases c:j<i∨rev k j<i
     · rw [if_pos c,if_pos (by omega)]
     · rw [if_neg c,if_neg (by omega)]
end Go.Proofs.YtdpmbgomcjnohaaGreatDoor
/- The three primes, and what their roots do. -/
namespace Go.Proofs.YtdpmbgomcjnohaaGreatDoor
open Go.RowKit
set_option linter.unusedVariables false
def pm (p:Nat):Nat→Nat→Nat→Nat
 | 0,_,_=>1%p
 | k+1,b,e=>if e%2=1 then b*pm p k (b*b%p) (e/2)%p else pm p k (b*b%p) (e/2)
theorem Cn (a n p:Nat):(a%p)^n%p=a^n%p:=by rw [← Nat.pow_mod]
theorem pm_eq (p k b e:Nat) (h:e<2^k):pm p k b e=b^e%p:=by
 induction k generalizing b e with
 | zero=>simp at h;subst h;simp [pm]
 | succ k ih =>
  rw [Nat.pow_succ] at h
  have hh:e/2<2^k:=by omega
  have e2:b^(2*(e/2))%p=(b*b%p)^(e/2)%p:=by rw [Nat.pow_mul,Cn,Nat.pow_two]
  rw [pm,ih _ _ hh]
  rcases (show e%2=0∨e%2=1 by omega) with h0 | h1
  · rw [if_neg (by omega),← e2];congr 2;omega
  · rw [if_pos h1,← e2,← Nat.mul_mod_mod]
    simp only [Nat.mod_mod]
    rw [Nat.mul_mod_mod,Nat.mul_comm,← Nat.pow_succ];congr 2;omega
structure Ih (f:Fd):Prop where
 good:Good f
 dv:(f.p-1)%2^20=0
 half:f.root^((f.p-1)/2)%f.p=f.p-1
 two:2^(f.p-1)%f.p=1
def F0:Fd:=⟨998244353,3,998244351,932051910,0,232013824⟩
def F1:Fd:=⟨469762049,3,469762047,460175152,305718167,51380224⟩
def F2:Fd:=⟨167772161,3,167772159,40265974,115614034,6553600⟩
theorem Km {p a b:Nat} (h:a%p=b%p):eX (p:Int) (a:Int) (b:Int):=by
 apply eX.Ud
 rw [← Int.natCast_emod,← Int.natCast_emod,h]
theorem Ih.VJ {f:Fd} (F:Ih f):eX (f.p:Int) ((f.root:Int)^((f.p-1)/2)) (-1):=by
 have p0:=F.good.p0
 have h:eX (f.p:Int) ((f.root^((f.p-1)/2):Nat):Int) ((f.p-1:Nat):Int):=Km (by rw [F.half,Nat.mod_eq_of_lt (by omega)])
 rw [Int.natCast_pow] at h
 exact h.trans ⟨1,by omega⟩
theorem Ih.even {f:Fd} (F:Ih f):f.p-1=2*((f.p-1)/2):=by
 have:=F.dv
 simp only [Nat.reducePow] at this
 omega
theorem Ih.full {f:Fd} (F:Ih f):eX (f.p:Int) ((f.root:Int)^(f.p-1)) 1:=by
 rw [F.even,Nat.mul_comm,Int.pow_mul]
 have:=F.VJ.pow 2
 rwa [show ((-1:Int))^2=1 by decide] at this
theorem Ih.dvk {f:Fd} (F:Ih f) {k:Nat} (hk:k≤20):(f.p-1)/2^k*2^k=f.p-1:=by
 apply Nat.div_mul_cancel
 exact Nat.dvd_trans (Nat.pow_dvd_pow 2 hk) (Nat.dvd_of_mod_eq_zero F.dv)
theorem Ih.rt {f:Fd} (F:Ih f) {k:Nat} (hk:k≤20):Rt (f.p:Int) ((rt f k:Nat):Int) k:=by
 have hd:=F.dvk hk
 refine ⟨?_,fun h0=>?_⟩
 · rw [Go.Proofs.YtdpmbgomcjnohaaGreatDoor.rt,Int.natCast_pow,← Int.pow_mul,hd];exact F.full
 · rw [Go.Proofs.YtdpmbgomcjnohaaGreatDoor.rt,Int.natCast_pow,← Int.pow_mul]
   have:(f.p-1)/2^k*2^(k-1)=(f.p-1)/2:=by
    obtain ⟨j,rfl⟩:∃ j,k=j+1:=⟨k-1,by omega⟩
    rw [Nat.add_sub_cancel,← hd]
    rw [Nat.pow_succ] at hd ⊢
    rw [show (f.p-1)/(2^j*2)*(2^j*2)=(f.p-1)/(2^j*2)*2^j*2 by rw [Nat.mul_assoc],Nat.mul_div_cancel _ (by decide)]
    rw [show (f.p-1)/(2^j*2)*2^j*2=f.p-1 by rw [Nat.mul_assoc];exact hd]
   rw [this];exact F.VJ
theorem inv_of {f:Fd} (F:Ih f) {x:Nat} (h:eX (f.p:Int) ((x:Int)^(f.p-1)) 1):eX (f.p:Int) ((x:Int)*((x^(f.p-2):Nat):Int)) 1:=by
 have p0:=F.good.p0
 rw [Int.natCast_pow,Int.mul_comm,← Int.pow_succ,show (f.p-2).succ=f.p-1 by omega]
 exact h
theorem Ih.Ue {f:Fd} (F:Ih f) (k:Nat):eX (f.p:Int) (((Go.Proofs.YtdpmbgomcjnohaaGreatDoor.rt f k:Nat):Int)^(f.p-1)) 1:=by
 rw [Go.Proofs.YtdpmbgomcjnohaaGreatDoor.rt,Int.natCast_pow,← Int.pow_mul,Nat.mul_comm,Int.pow_mul]
 have:=F.full.pow ((f.p-1)/2^k)
 rwa [Int.one_pow] at this
theorem Ih.wv {f:Fd} (F:Ih f) (k:Nat):eX (f.p:Int) (((Go.Proofs.YtdpmbgomcjnohaaGreatDoor.rt f k:Nat):Int)*((bt f k:Nat):Int)) 1:=inv_of F (F.Ue k)
theorem Xv {p w v:Int} {k:Nat} (hr:Rt p w k) (h:eX p (w*v) 1):Rt p v k:=by
 have key:∀ n,eX p (w^n*v^n) 1:=fun n=>by
  have e:w^n*v^n=(w*v)^n:=by
   induction n with
   | zero=>simp
   | succ n ih=>rw [Int.pow_succ,Int.pow_succ,Int.pow_succ,← ih];grind
  rw [e];have:=h.pow n;rwa [Int.one_pow] at this
 refine ⟨?_,fun h0=>?_⟩
 · have:=(hr.1.mul (eX.refl p (v^2^k))).symm.trans (key _)
   rwa [Int.one_mul] at this
 · have:=((hr.2 h0).mul (eX.refl p (v^2^(k-1)))).symm.trans (key _)
   have:=(eX.refl p (-1)).mul this
   rwa [show (-1:Int)*(-1*v^2^(k-1))=v^2^(k-1) by grind,Int.mul_one] at this
theorem Ih.bt {f:Fd} (F:Ih f) {k:Nat} (hk:k≤20):Rt (f.p:Int) ((bt f k:Nat):Int) k:=Xv (F.rt hk) (F.wv k)
structure Co (f:Fd) (k W S:Nat) (l out:List Nat):Prop where
 len:out.length=2^k
 lt:∀ x∈out,x<f.p
 at_:∀ j,j<2^k→eX (f.p:Int) (seq out j) ((S:Int)*YC (W:Int) (2^k) (seq l) j)
theorem Co.of {f:Fd} {k W:Nat} {l o o2:List Nat} (h1:LC f k W l 0 o) (h2:Sw k f.p (2^k) o o2):Co f k W 1 l o2:=by
 refine ⟨h2.len,h2.lt,fun j hj=>?_⟩
 unfold seq
 rw [h2.at_ j hj,if_pos (.inl hj),Int.natCast_one,Int.one_mul]
 have:=h1.down.done (rev k j) (Kn k j)
 rw [rev_rev k j hj] at this
 exact this
end Go.Proofs.YtdpmbgomcjnohaaGreatDoor
/- The table of the primes; a prime, a root. -/
namespace Go.Proofs.YtdpmbgomcjnohaaGreatDoor
open Go.RowKit
set_option linter.unusedVariables false
set_option maxHeartbeats 400000
def GB (w:World) (o:Nat) (f:Fd):Prop:=w.cell? ⟨0,o,none⟩=some (.int .u32 (f.p:Int))∧w.cell? ⟨0,o+1,none⟩=some (.int .u32 (f.root:Int))∧w.cell? ⟨0,o+2,none⟩=some (.int .u32 (f.neg:Int))∧w.cell? ⟨0,o+3,none⟩=some (.int .u32 (f.square:Int))∧w.cell? ⟨0,o+4,none⟩=some (.int .u32 (f.ahead:Int))
def Gl (w:World):Prop:=0<w.heap.size∧GB w 0 F0∧GB w 5 F1∧GB w 10 F2
theorem GB.keep {w w':World} {o:Nat} {f:Fd} (h:GB w o f) (hk:∀ j,w'.cell? ⟨0,j,none⟩=w.cell? ⟨0,j,none⟩):GB w' o f:=by
 unfold GB at *;simp only [hk];exact h
theorem Gl.below {w w':World} {B:Nat} (h:Gl w) (hB:Below B w w') (h0:0<B):Gl w':=by
 have hk:∀ j,w'.cell? ⟨0,j,none⟩=w.cell? ⟨0,j,none⟩:=fun j=>hB.cell (p:=⟨0,j,none⟩) h0
 exact ⟨Nat.lt_of_lt_of_le h.1 hB.size,h.2.1.keep hk,h.2.2.1.keep hk,h.2.2.2.keep hk⟩
theorem Gl.ext {w w':World} (h:Gl w) (hB:Ext w w'):Gl w':=h.below hB h.1
def fd (i:Nat):Fd:=if i=0 then F0 else if i=1 then F1 else F2
end Go.Proofs.YtdpmbgomcjnohaaGreatDoor
/- The transform. -/
namespace Go.Proofs.YtdpmbgomcjnohaaGreatDoor
open Go.RowKit
set_option linter.unusedVariables false
set_option maxHeartbeats 400000
attribute [local go_sem ↓] fD
attribute [local go_sem] bL
theorem Gl.at_ {w:World} (h:Gl w) {i:Nat} (hi:i<3):GB w (i*5) (fd i):=by
 rcases (show i=0∨i=1∨i=2 by omega) with rfl | rfl | rfl
 · exact h.2.1
 · exact h.2.2.1
 · exact h.2.2.2
end Go.Proofs.YtdpmbgomcjnohaaGreatDoor
/- The transform, back. -/
namespace Go.Proofs.YtdpmbgomcjnohaaGreatDoor
open Go.RowKit
set_option linter.unusedVariables false
set_option maxHeartbeats 400000
attribute [local go_sem ↓] fD
attribute [local go_sem] bL
structure Bk (f:Fd) (n S m:Nat) (l o:List Nat):Prop where
 len:o.length=n
 lt:∀ x∈o,x<f.p
 at_:∀ i,lb o i=if i<m then mm f (lb l i) (uE f S) else lb l i
theorem Bk.step {f:Fd} {n S m:Nat} {l o:List Nat} (H:Bk f n S m l o) (hf:Good f) (hm:m<n):Bk f n S (m+1) l (o.set m (mm f (lb o m) (uE f S))):=by
 refine ⟨by simp [H.len],dY H.lt (OE f hf _ _),fun i=>?_⟩
 have e0:lb o m=lb l m:=by rw [H.at_ m,if_neg (Nat.lt_irrefl m)]
 rw [iN _ _ _ _ (by rw [H.len];exact hm),e0]
 by_cases e:m=i
 · subst e;rw [if_pos rfl,if_pos (by omega)]
 · rw [if_neg e,H.at_ i]
   by_cases c:i<m
   · rw [if_pos c,if_pos (by omega)]
   · rw [if_neg c,if_neg (by omega)]
theorem Co.times {f:Fd} {k W S:Nat} {l o6 o:List Nat} (h:Co f k W 1 l o6) (hf:Good f) (H:Bk f (2^k) S (2^k) o6 o):Co f k W S l o:=by
 refine ⟨H.len,H.lt,fun j hj=>?_⟩
 unfold seq
 rw [H.at_ j,if_pos hj]
 refine (rF f hf _ _).trans ?_
 have:=(h.at_ j hj).mul (eX.refl (f.p:Int) (S:Int))
 rw [Int.natCast_one,Int.one_mul,Int.mul_comm (YC _ _ _ _)] at this
 exact this
end Go.Proofs.YtdpmbgomcjnohaaGreatDoor
/- Where there is no transform. -/
namespace Go.Proofs.YtdpmbgomcjnohaaGreatDoor
open Go.RowKit
set_option linter.unusedVariables false
set_option maxHeartbeats 400000
theorem U.shape {w:World} {v:Value} {xs:List Nat} (h:U w v xs):∃ A c,v = .slice A xs.length c∧xs.length≤c:=by
 obtain ⟨A,c,rfl,hc,_⟩:=h;exact ⟨A,c,rfl,hc.1⟩
end Go.Proofs.YtdpmbgomcjnohaaGreatDoor
/- Sums of products of limbs; rows of three limbs each. -/
namespace Go.Proofs.YtdpmbgomcjnohaaGreatDoor
open Go.RowKit
set_option linter.unusedVariables false
def cv (a b:List Nat):Nat→Nat→Nat
 | 0,_=>0
 | i+1,m=>cv a b i m+if i≤m then lb a i*lb b (m-i) else 0
theorem LY {x y:Nat} (hx:x<4294967296) (hy:y<4294967296):x*y≤18446744065119617025:=Nat.mul_le_mul (show x≤4294967295 by omega) (show y≤4294967295 by omega)
def conv (a b:List Nat):List Nat:=(List.range (a.length+b.length-1)).map fun m=>cv a b a.length m
theorem Ko (n:Nat) (f:Nat→Nat) (m:Nat) (h:m<n):lb ((List.range n).map f) m=f m:=by simp [lb,h]
def fl:List Nat→List Nat
 | []=>[]
 | c::cs=>c%4294967296::c/4294967296%4294967296::c/18446744073709551616%4294967296::fl cs
theorem Xw (cs:List Nat):(fl cs).length=cs.length*3:=by
 induction cs with
 | nil=>rfl
 | cons c cs ih=>simp only [fl,List.length_cons,ih];omega
theorem uM (cs:List Nat):∀ x∈fl cs,x<4294967296:=by
 induction cs with
 | nil=>simp [fl]
 | cons c cs ih =>
  intro x hx
  simp only [fl,List.mem_cons] at hx
  rcases hx with rfl | rfl | rfl | hx
  · omega
  · omega
  · omega
  · exact ih x hx
def Own3 (w:World) (base:Nat) (v:Value) (cs:List Nat):Prop:=w.ownsRow base 156 3 v cs.length (qy (fl cs))
theorem Own3.block {w:World} {base g n c:Nat} {o:List Nat} (h:Own3 w base (.slice (some ⟨g,0,none⟩) n c) o):base≤g∧g<w.heap.size:=by
 have h0:w.ownsRow base 156 3 (.slice (some ⟨g,0,none⟩) n c) o.length (qy (fl o)):=h
 exact h0.lt g rfl
theorem Own3.caps {w:World} {base g n c:Nat} {o:List Nat} (h:Own3 w base (.slice (some ⟨g,0,none⟩) n c) o):n=o.length∧n≤c∧c≤maxLen:=by
 rcases h.2 with ⟨h1,_⟩ | ⟨g',cap,cur,h1,hg,hh,h2,h3,h4,h5⟩
 · cases h1
 · injection h1 with e1 e2 e3
   subst e2 e3
   exact ⟨rfl,h2,h3⟩
theorem Own3.below {w w':World} {base B:Nat} {v:Value} {o:List Nat} (h:Own3 w base v o) (hB:Below B w w') (hv:∀ g,v.ownBlock=some g→g<B):Own3 w' base v o:=by
 refine ⟨h.1,?_⟩
 rcases h.2 with hn | ⟨g,cap,cur,rfl,hb,hgg,rest⟩
 · exact .inl hn
 · refine .inr ⟨g,cap,cur,rfl,hb,?_,rest⟩
   rw [hB.block g (hv g rfl)]
   exact hgg
theorem Own3.ext {w w':World} {base g n c:Nat} {o:List Nat} (h:Own3 w base (.slice (some ⟨g,0,none⟩) n c) o) (hB:Ext w w'):Own3 w' base (.slice (some ⟨g,0,none⟩) n c) o :=
 h.below hB (fun g' hg=>by injection hg with hg;subst hg;exact h.block.2)
theorem Own3.cell {w:World} {base g n c:Nat} {o:List Nat} (h:Own3 w base (.slice (some ⟨g,0,none⟩) n c) o) {j:Nat} (hj:j<o.length*3):w.cell? ⟨g,j,none⟩=some (.int .u32 (lb (fl o) j:Nat)):=by
 obtain ⟨e,_,_⟩:=h.caps
 subst e
 have h0:w.ownsRow base 156 3 (.slice (some ⟨g,0,none⟩) o.length c) o.length (qy (fl o)):=h
 rw [World.ownsRow.cellAt h0 j hj];exact Ah _ (by rw [Xw];exact hj)
end Go.Proofs.YtdpmbgomcjnohaaGreatDoor
/- Are two rows the same; sums of products of short rows. -/
namespace Go.Proofs.YtdpmbgomcjnohaaGreatDoor
open Go.RowKit
set_option linter.unusedVariables false
set_option maxHeartbeats 400000
def U3 (w:World) (v:Value) (cs:List Nat):Prop :=
 ∃ (A:Option Addr) (c:Nat),v = .slice A cs.length c∧(cs.length≤c∧cs.length≤9223372036854775807) ∧
  (0<cs.length→∃ ad,A=some ad∧ad.block<w.heap.size∧∀ j,j<cs.length*3→w.cell? (ad.add j)=some (.int .u32 (lb (fl cs) j:Nat)))
theorem U3.below {w w':World} {v:Value} {cs:List Nat} (h:U3 w v cs) (hb:Below w.heap.size w w'):U3 w' v cs:=by
 obtain ⟨A,c,rfl,hc,hr⟩:=h
 refine ⟨A,c,rfl,hc,fun h0=>?_⟩
 obtain ⟨ad,hA,hbk,hcell⟩:=hr h0
 exact ⟨ad,hA,Nat.lt_of_lt_of_le hbk hb.size,fun j hj=>(hb.cell (p:=ad.add j) (by rw [aF];exact hbk)).trans (hcell j hj)⟩
theorem U3.alloc {w:World} {v:Value} {xs:List Nat} (h:U3 w v xs) (o:Obj):U3 (w.alloc o) v xs:=U3.below h ((Ext.refl w).alloc o)
theorem U3.uW (w:World) (A:Option Addr) (c:Nat):U3 w (.slice A 0 c) []:=⟨A,c,rfl,⟨Nat.zero_le _,Nat.zero_le _⟩,fun h=>absurd h (by simp)⟩
theorem Uf (a:Addr) (n:Nat) (h:n≠0):a.add n=⟨a.block,a.off+n,none⟩:=by unfold Addr.add;simp [h]
end Go.Proofs.YtdpmbgomcjnohaaGreatDoor
/- Sums of products of rows of which one is short. -/
namespace Go.Proofs.YtdpmbgomcjnohaaGreatDoor
open Go.RowKit
set_option linter.unusedVariables false
set_option maxHeartbeats 400000
def cvs (a b:List Nat):List Nat:=if a.length=0∨b.length=0 then [] else conv a b
end Go.Proofs.YtdpmbgomcjnohaaGreatDoor
/- The transform as one row of numbers; the contracts in one form. -/
namespace Go.Proofs.YtdpmbgomcjnohaaGreatDoor
open Go.RowKit
set_option linter.unusedVariables false
set_option maxHeartbeats 400000
def Ii:Nat→(Nat→Nat)→Nat
 | 0,_=>0
 | n+1,f=>Ii n f+f n
theorem NF (n:Nat) (f:Nat→Nat):((Ii n f:Nat):Int)=sm n fun i=>((f i:Nat):Int):=by
 induction n with
 | zero=>rfl
 | succ n ih=>rw [Ii,l9,← ih,Int.natCast_add]
theorem Qy (n p:Nat) (f g:Nat→Nat) (h:∀ i,i<n→f i%p=g i%p):Ii n f%p=Ii n g%p:=by
 induction n with
 | zero=>rfl
 | succ n ih=>rw [Ii,Ii,Nat.add_mod,ih fun i hi=>h i (by omega),h n (by omega),← Nat.add_mod]
def dv (p W S n:Nat) (l:List Nat) (j:Nat):Nat:=S*Ii n (fun i=>lb l i*W^(i*j))%p
def NG (p W S n:Nat) (l:List Nat):List Nat:=(List.range n).map (dv p W S n l)
theorem Ug (p W S n:Nat) (l:List Nat):(NG p W S n l).length=n:=by simp [NG]
theorem Xx (p W S n:Nat) (l:List Nat) (j:Nat) (h:j<n):lb (NG p W S n l) j=dv p W S n l j:=Ko _ _ _ h
theorem Xy (p W S n:Nat) (l:List Nat) (j:Nat):dv p W S n l j=dv p (W%p) (S%p) n l j:=by
 unfold dv
 rw [Ck,Nat.mul_mod,Qy n p _ (fun i=>lb l i*(W%p)^(i*j)) (fun i _=>by rw [Nat.mul_mod,← Cn,← Nat.mul_mod]),← Nat.mul_mod]
theorem Uh (p W S n:Nat) (l:List Nat):NG p W S n l=NG p (W%p) (S%p) n l:=by
 unfold NG
 exact List.map_congr_left fun j _=>Xy p W S n l j
theorem Ij (p W S n:Nat) (l:List Nat) (j:Nat) (hp:0<p):dv p W S n l j<p:=Nat.mod_lt _ hp
theorem Xz (p W S n:Nat) (l:List Nat) (j:Nat):eX (p:Int) ((dv p W S n l j:Nat):Int) ((S:Int)*YC (W:Int) n (seq l) j):=by
 unfold dv YC seq
 refine (eX.zS _ _).trans (eX.of_eq ?_)
 rw [Int.natCast_mul,NF]
 congr 1
theorem Co.eq {f:Fd} {k W S:Nat} {l out:List Nat} (h:Co f k W S l out) (hp:0<f.p):out=NG f.p W S (2^k) l:=by
 refine mP (by rw [h.len,Ug]) fun j hj=>?_
 rw [h.len] at hj
 rw [Xx _ _ _ _ _ _ hj]
 exact ((h.at_ j hj).trans (Xz _ _ _ _ _ _).symm).eq (dh hp h.lt _) (Ij _ _ _ _ _ _ hp)
theorem Kq (f:Fd) (k v:Nat) (h1:(f.p-1)/2^k<2^30) (h:pm f.p 30 f.root ((f.p-1)/2^k)=v):rt f k%f.p=v:=by
 unfold rt;rw [← pm_eq _ 30 _ _ h1];exact h
theorem Qz (f:Fd) (k r v:Nat) (hr:rt f k%f.p=r) (h1:f.p-2<2^30) (h:pm f.p 30 r (f.p-2)=v):bt f k%f.p=v:=by
 unfold bt;rw [← Cn,hr,← pm_eq _ 30 _ _ h1];exact h
theorem QA (f:Fd) (n v:Nat) (h1:f.p-2<2^30) (h:pm f.p 30 n (f.p-2)=v):sh f n%f.p=v:=by
 unfold sh;rw [← pm_eq _ 30 _ _ h1];exact h
theorem Fq (p W S n:Nat) (l out:List Nat) (W' S':Nat) (hW:W%p=W') (hS:S%p=S') (h:NG p W' S' n l=out):NG p W S n l=out:=by
 rw [Uh,hW,hS];exact h
theorem ZJ:rt (fd 0) 1%(fd 0).p=998244352:=Kq _ _ _ (by decide +kernel) (by decide +kernel)
theorem adB:rt (fd 2) 2%(fd 2).p=65249968:=Kq _ _ _ (by decide +kernel) (by decide +kernel)
theorem adC:rt (fd 1) 0%(fd 1).p=1:=Kq _ _ _ (by decide +kernel) (by decide +kernel)
theorem hv1:NG (fd 0).p (rt (fd 0) 1) 1 (2^1) [5,7]=[12,998244351]:=Fq _ _ _ _ _ _ _ 1 ZJ (by decide +kernel) (by decide +kernel)
theorem hv2:NG (fd 0).p (bt (fd 0) 1) (sh (fd 0) (2^1)) (2^1) [12,998244351]=[5,7] :=
 Fq _ _ _ _ _ _ 998244352 499122177 (Qz _ _ _ _ ZJ (by decide +kernel) (by decide +kernel)) (QA _ _ _ (by decide +kernel) (by decide +kernel)) (by decide +kernel)
theorem hv3:NG (fd 2).p (rt (fd 2) 2) 1 (2^2) [1,2,3,4]=[10,37272223,167772159,130499934]:=Fq _ _ _ _ _ _ _ 1 adB (by decide +kernel) (by decide +kernel)
theorem hv4:NG (fd 1).p (bt (fd 1) 0) (sh (fd 1) (2^0)) (2^0) [9]=[9] :=
 Fq _ _ _ _ _ _ 1 1 (Qz _ _ _ _ adC (by decide +kernel) (by decide +kernel)) (QA _ _ _ (by decide +kernel) (by decide +kernel)) (by decide +kernel)
theorem hv5:cvs [4294967295] [4294967295]=[18446744065119617025]:=by decide +kernel
theorem hv6:cvs [1,2] [3,4,5]=[3,10,13,10]:=by decide +kernel
end Go.Proofs.YtdpmbgomcjnohaaGreatDoor
