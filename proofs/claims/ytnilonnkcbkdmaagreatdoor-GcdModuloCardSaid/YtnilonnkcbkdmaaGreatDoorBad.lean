/- What the rounds of a transform in its place come to. -/
import Derived.Test.YtnilonnkcbkdmaaGreatDoorBac
import Derived.Laws.Externs
import Derived.Laws.StructEq
import Derived.Laws.Cover2
import Derived.Laws.Tables
import Derived.Laws.Small
import Derived.Below
import Derived.Laws.OwnMore
import Derived.Deep.AppendLies
import Derived.Deep.Draws
import Derived.Lib.Hide
import Derived.Test.YtnilonnkcbkdmaaGreatDoorProg
import Derived.WalkKit
import Derived.ProofKit
import Derived.OpenShut
import Derived.JoinedCond
import Derived.RegionTactic
import Derived.LoopTactic
import Derived.BigQuiet
import Derived.Deep.QuietTactic
import Derived.Outline

namespace Go.Proofs.YtnilonnkcbkdmaaGreatDoor
set_option linter.unusedVariables false
def stp (f:Fd) (pw:List Nat) (h a j:Nat) (o:List Nat):List Nat :=
 (o.set (a+j) ((lb o (a+j)+lb o (a+h+j))%f.p)).set (a+h+j) (mm f (lb o (a+j)+f.p-lb o (a+h+j)) (lb pw (h+j)))
def stu (f:Fd) (pw:List Nat) (h a j:Nat) (o:List Nat):List Nat :=
 (o.set (a+j) ((lb o (a+j)+mm f (lb o (a+h+j)) (lb pw (h+j)))%f.p)).set (a+h+j) ((lb o (a+j)+f.p-mm f (lb o (a+h+j)) (lb pw (h+j)))%f.p)
def inn (st:Nat→Nat→List Nat→List Nat) (a:Nat):Nat→List Nat→List Nat
 | 0,o=>o
 | j+1,o=>st a j (inn st a j o)
def mid (st:Nat→Nat→List Nat→List Nat) (h:Nat):Nat→List Nat→List Nat
 | 0,o=>o
 | b+1,o=>inn st (b*(2*h)) h (mid st h b o)
structure alf (st:Nat→Nat→List Nat→List Nat) (h n p:Nat) (F G:Nat→Nat→Nat→Nat):Prop where
 len:∀ a j o,(st a j o).length=o.length
 lt:∀ a j o,(∀ x∈o,x<p)→∀ x∈st a j o,x<p
 eq:∀ a j o,o.length=n→j<h→a+2*h≤n→∀ i,lb (st a j o) i=if i=a+h+j then G j (lb o (a+j)) (lb o (a+h+j)) else if i=a+j then F j (lb o (a+j)) (lb o (a+h+j)) else lb o i
theorem aaL (f:Fd) (hf:Good f) (pw:List Nat) (h n:Nat):alf (stp f pw h) h n f.p (fun _ x y=>(x+y)%f.p) (fun j x y=>mm f (x+f.p-y) (lb pw (h+j))):=by
 have p0:=hf.p0
 refine ⟨fun a j o=>by simp [stp],fun a j o ho=>gm (gm ho (Nat.mod_lt _ (by omega))) (aaM f hf _ _),fun a j o hl hj ha i=>?_⟩
 unfold stp
 rw [lV _ _ _ _ (by simp;omega),lV _ _ _ _ (by omega)]
 by_cases e:a+h+j=i
 · rw [if_pos e,if_pos e.symm]
 · rw [if_neg e,if_neg (Ne.symm e)]
   by_cases e2:a+j=i
   · rw [if_pos e2,if_pos e2.symm]
   · rw [if_neg e2,if_neg (Ne.symm e2)]
theorem aaN (f:Fd) (hf:Good f) (pw:List Nat) (h n:Nat):alf (stu f pw h) h n f.p (fun j x y=>(x+mm f y (lb pw (h+j)))%f.p) (fun j x y=>(x+f.p-mm f y (lb pw (h+j)))%f.p):=by
 have p0:=hf.p0
 refine ⟨fun a j o=>by simp [stu],fun a j o ho=>gm (gm ho (Nat.mod_lt _ (by omega))) (Nat.mod_lt _ (by omega)),fun a j o hl hj ha i=>?_⟩
 unfold stu
 rw [lV _ _ _ _ (by simp;omega),lV _ _ _ _ (by omega)]
 by_cases e:a+h+j=i
 · rw [if_pos e,if_pos e.symm]
 · rw [if_neg e,if_neg (Ne.symm e)]
   by_cases e2:a+j=i
   · rw [if_pos e2,if_pos e2.symm]
   · rw [if_neg e2,if_neg (Ne.symm e2)]
section
variable {st:Nat→Nat→List Nat→List Nat} {h n p:Nat} {F G:Nat→Nat→Nat→Nat} (H:alf st h n p F G)
include H
theorem Ve (a j:Nat) (o:List Nat):(inn st a j o).length=o.length:=by
 induction j with
 | zero=>rfl
 | succ j ih=>rw [inn,H.len,ih]
theorem alg (a j:Nat) (o:List Nat) (ho:∀ x∈o,x<p):∀ x∈inn st a j o,x<p:=by
 induction j with
 | zero=>exact ho
 | succ j ih=>rw [inn];exact H.lt _ _ _ ih
theorem alh (a j:Nat) (o:List Nat) (hl:o.length=n) (hj:j≤h) (ha:a+2*h≤n) :
  (∀ i,i<j→lb (inn st a j o) (a+i)=F i (lb o (a+i)) (lb o (a+h+i))∧lb (inn st a j o) (a+h+i)=G i (lb o (a+i)) (lb o (a+h+i))) ∧
  (∀ i,((i<a∨a+2*h≤i)∨(∃ m,j≤m∧m<h∧(i=a+m∨i=a+h+m)))→lb (inn st a j o) i=lb o i):=by
 induction j with
 | zero=>exact ⟨fun i hi=>by omega,fun i _=>rfl⟩
 | succ j ih =>
  obtain ⟨h1,h2⟩:=ih (by omega)
  have hn:=Ve H a j o
  have e:=H.eq a j (inn st a j o) (by omega) (by omega) ha
  rw [h2 (a+j) (.inr ⟨j,by omega,by omega,.inl rfl⟩),h2 (a+h+j) (.inr ⟨j,by omega,by omega,.inr rfl⟩)] at e
  refine ⟨fun i hi=>?_,fun i hi=>?_⟩
  · rw [inn,e,e,if_neg (by omega)]
    by_cases ei:i=j
    · subst ei;rw [if_pos rfl,if_pos rfl];exact ⟨rfl,rfl⟩
    · rw [if_neg (by omega),if_neg (by omega),if_neg (by omega)];exact h1 i (by omega)
  · rw [inn,e]
    rw [if_neg (by rcases hi with hi | ⟨m,h3,h4,h5⟩<;>omega),if_neg (by rcases hi with hi | ⟨m,h3,h4,h5⟩<;>omega)]
    exact h2 i (by rcases hi with hi | ⟨m,h3,h4,h5⟩;exact .inl hi;exact .inr ⟨m,by omega,h4,h5⟩)
theorem MB (b:Nat) (o:List Nat):(mid st h b o).length=o.length:=by
 induction b with
 | zero=>rfl
 | succ b ih=>rw [mid,Ve H,ih]
theorem aaO (b:Nat) (o:List Nat) (ho:∀ x∈o,x<p):∀ x∈mid st h b o,x<p:=by
 induction b with
 | zero=>exact ho
 | succ b ih=>rw [mid];exact alg H _ _ _ ih
theorem aaP (b:Nat) (o:List Nat) (hl:o.length=n) (hb:b*(2*h)≤n) :
  (∀ c i,c<b→i<h→lb (mid st h b o) (c*(2*h)+i)=F i (lb o (c*(2*h)+i)) (lb o (c*(2*h)+h+i))∧lb (mid st h b o) (c*(2*h)+h+i)=G i (lb o (c*(2*h)+i)) (lb o (c*(2*h)+h+i))) ∧
  (∀ i,b*(2*h)≤i→lb (mid st h b o) i=lb o i):=by
 induction b with
 | zero=>exact ⟨fun c i hc=>by omega,fun i _=>rfl⟩
 | succ b ih =>
  rw [Nat.add_mul,Nat.one_mul] at hb
  obtain ⟨h1,h2⟩:=ih (by omega)
  obtain ⟨g1,g2⟩:=alh H (b*(2*h)) h (mid st h b o) (by rw [MB H,hl]) (Nat.le_refl _) hb
  refine ⟨fun c i hc hi=>?_,fun i hi=>?_⟩
  · rw [mid]
    by_cases e:c=b
    · subst e
      rw [(g1 i hi).1,(g1 i hi).2,h2 _ (by omega),h2 _ (by omega)]
      exact ⟨rfl,rfl⟩
    · have:(c+1)*(2*h)≤b*(2*h):=Nat.mul_le_mul_right _ (by omega)
      rw [Nat.add_mul,Nat.one_mul] at this
      rw [g2 _ (.inl (.inl (by omega))),g2 _ (.inl (.inl (by omega)))]
      exact h1 c i (by omega) hi
  · rw [Nat.add_mul,Nat.one_mul] at hi
    rw [mid,g2 _ (.inl (.inr hi)),h2 _ (by omega)]
end
theorem xB (f:Fd) (hf:Good f) (x y:Nat):gJ (f.p:Int) ((mm f x (zo f y):Nat):Int) ((x:Int)*(y:Int)):=by
 rw [ag',aha f hf,Nat.mul_comm,← Int.natCast_mul];exact gJ.FC _ _
theorem Vf (p x y:Nat):gJ (p:Int) (((x+y)%p:Nat):Int) ((x:Int)+(y:Int)):=by
 rw [← Int.natCast_add];exact gJ.FC _ _
theorem Vg (p x y:Nat) (hy:y≤p):gJ (p:Int) ((x+p-y:Nat):Int) ((x:Int)-(y:Int)):=⟨1,by omega⟩
def seq (l:List Nat) (i:Nat):Int:=((lb l i:Nat):Int)
structure Vh (f:Fd) (k W:Nat) (l:List Nat) (s:Nat) (o:List Nat):Prop where
 len:o.length=2^k
 lt:∀ x∈o,x<f.p
 down:Down f.p W k s (seq l) (seq o)
theorem Vh.step {f:Fd} (hf:Good f) {k W:Nat} {l:List Nat} {s:Nat} {o pw:List Nat} (hr:Rt f.p W k) (hp:Pw f k W pw) (H:Vh f k W l (s+1) o) (hs:s+1≤k) :
  Vh f k W l s (mid (stp f pw (2^s)) (2^s) (2^(k-(s+1))) o):=by
 have P:=aaL f hf pw (2^s) (2^k)
 have hk:2^(k-(s+1))*(2*2^s)=2^k:=by rw [← Nat.pow_succ',← Nat.pow_add];congr 1;omega
 obtain ⟨e1,e2⟩:=aaP P (2^(k-(s+1))) o H.len (by omega)
 refine ⟨by rw [MB P,H.len],aaO P _ _ H.lt,H.down.step hr (fun b j hb hj=>?_) (fun b j hb hj=>?_)⟩
 · unfold seq
   rw [Nat.pow_succ',(e1 b j hb hj).1]
   exact Vf _ _ _
 · unfold seq
   rw [Nat.pow_succ',(e1 b j hb hj).2,hp.at_ s j (by omega) hj]
   refine (xB f hf _ _).trans (gJ.mul (Vg _ _ _ (Nat.le_of_lt (eX (by have:=hf.p0;omega) H.lt _))) (gJ.of_eq ?_))
   rw [Int.natCast_pow,show k-1-s=k-(s+1) by omega]
structure UpL (f:Fd) (k V:Nat) (l:List Nat) (s:Nat) (o:List Nat):Prop where
 len:o.length=2^k
 lt:∀ x∈o,x<f.p
 up:Up f.p V k s (seq l) (seq o)
theorem UpL.step {f:Fd} (hf:Good f) {k V:Nat} {l:List Nat} {s:Nat} {o pw:List Nat} (hr:Rt f.p V k) (hp:Pw f k V pw) (H:UpL f k V l s o) (hs:s+1≤k) :
  UpL f k V l (s+1) (mid (stu f pw (2^s)) (2^s) (2^(k-(s+1))) o):=by
 have P:=aaN f hf pw (2^s) (2^k)
 have hk:2^(k-(s+1))*(2*2^s)=2^k:=by rw [← Nat.pow_succ',← Nat.pow_add];congr 1;omega
 obtain ⟨e1,e2⟩:=aaP P (2^(k-(s+1))) o H.len (by omega)
 have hpw:∀ x j,j<2^s→gJ (f.p:Int) ((mm f x (lb pw (2^s+j)):Nat):Int) ((x:Int)*(V:Int)^(2^(k-(s+1))*j)):=fun x j hj=>by
  rw [hp.at_ s j (by omega) hj]
  refine (xB f hf _ _).trans (gJ.of_eq ?_)
  rw [Int.natCast_pow,show k-1-s=k-(s+1) by omega]
 refine ⟨by rw [MB P,H.len],aaO P _ _ H.lt,H.up.step hr hs (fun b j hb hj=>?_) (fun b j hb hj=>?_)⟩
 · unfold seq
   rw [Nat.pow_succ',(e1 b j hb hj).1]
   exact (Vf _ _ _).trans ((gJ.refl _ _).add (hpw _ j hj))
 · unfold seq
   rw [Nat.pow_succ',(e1 b j hb hj).2]
   exact (gJ.FC _ _).trans ((Vg _ _ _ (Nat.le_of_lt (aaM f hf _ _))).trans ((gJ.refl _ _).sub (hpw _ j hj)))
end Go.Proofs.YtnilonnkcbkdmaaGreatDoor
/- A transform in its place, on the way down. -/
namespace Go.Proofs.YtnilonnkcbkdmaaGreatDoor
open Go.RowKit
set_option linter.unusedVariables false
set_option maxHeartbeats 400000
def But (g:Nat) (a b:World):Prop:=a.grownBy b (some g)
theorem But.refl (g:Nat) (w:World):But g w w:=World.grownBy.refl w _
theorem But.trans {g:Nat} {a b c:World} (h:But g a b) (k:But g b c):But g a c :=
 ⟨k.os.trans h.os,k.tape.trans h.tape,k.output.trans h.output,Nat.le_trans h.size k.size,fun i hi hne=>(k.block i (Nat.lt_of_lt_of_le hi h.size) hne).trans (h.block i hi hne)⟩
theorem But.ext {g:Nat} {a b c:World} (h:But g a b) (k:Ext b c):But g a c :=
 h.trans ⟨k.os,k.tape,k.output,k.size,fun i hi _=>k.block i hi⟩
theorem But.setCell {g:Nat} {a b:World} (h:But g a b) (j:Nat) (v:Value):But g a (b.setCell ⟨g,j,none⟩ v) :=
 h.trans ⟨rfl,rfl,rfl,by simp [World.setCell],fun i hi hne=>Below.heap_setCell _ _ _ _ (fun e=>hne (by rw [e]))⟩
theorem But.drew {g:Nat} {a b:World} (h:But g a b):But g a b.drew:=⟨h.os,h.tape,h.output,h.size,h.block⟩
theorem But.below {g B:Nat} {a b:World} (h:But g a b) (hB:B≤g) (ha:B≤a.heap.size):Below B a b :=
 ⟨h.os,h.tape,h.output,h.size,fun i hi=>h.block i (by omega) (fun e=>by injection e;omega)⟩
theorem But.cell {g:Nat} {a b:World} (h:But g a b) {p:Addr} (hp:p.block<a.heap.size) (hne:p.block≠g):b.cell? p=a.cell? p:=World.cell?_of_block (h.block _ hp (fun e=>hne (by injection e)))
def Rd (w:World) (q:Nat) (pw:List Nat):Prop:=q<w.heap.size∧∀ j,j<pw.length→w.cell? ⟨q,j,none⟩=some (.int .u32 (lb pw j:Nat))
theorem Own.rd {w:World} {base q n c:Nat} {o:List Nat} (h:Own w base (.slice (some ⟨q,0,none⟩) n c) o):Rd w q o:=by
 obtain ⟨e,_,_⟩:=h.caps
 subst e
 exact ⟨h.block.2,fun j hj=>h.cell hj⟩
theorem Own.frozen' {w:World} {base g n c:Nat} {o:List Nat} (h:Own w base (.slice (some ⟨g,0,none⟩) n c) o) (j:Nat):w.frozen? ⟨g,j,none⟩=false:=by
 obtain ⟨e,_,_⟩:=h.caps
 subst e
 exact h.frozen j
theorem Own.ext {w w':World} {base g n c:Nat} {o:List Nat} (h:Own w base (.slice (some ⟨g,0,none⟩) n c) o) (hB:Ext w w'):Own w' base (.slice (some ⟨g,0,none⟩) n c) o :=
 h.below hB (fun g' hg=>by injection hg with hg;subst hg;exact h.block.2)
theorem Own.set' {w:World} {base g n c:Nat} {o:List Nat} (h:Own w base (.slice (some ⟨g,0,none⟩) n c) o) (j x:Nat):Own (w.setCell ⟨g,j,none⟩ (.int .u32 (x:Nat))) base (.slice (some ⟨g,0,none⟩) n c) (o.set j x):=by
 obtain ⟨e,_,_⟩:=h.caps
 subst e
 have:=h.rO j x
 rwa [List.length_set] at this
end Go.Proofs.YtnilonnkcbkdmaaGreatDoor
/- Bits turned round. -/
namespace Go.Proofs.YtnilonnkcbkdmaaGreatDoor
open Go.RowKit
set_option linter.unusedVariables false
set_option maxHeartbeats 400000
theorem m1 (j:Nat) (h:j<32):Nat.testBit 1431655765 j=(j%2==0):=(by decide:∀ j:Fin 32,Nat.testBit 1431655765 j.1=(j.1%2==0)) ⟨j,h⟩
theorem m2 (j:Nat) (h:j<32):Nat.testBit 858993459 j=decide (j%4<2):=(by decide:∀ j:Fin 32,Nat.testBit 858993459 j.1=decide (j.1%4<2)) ⟨j,h⟩
theorem m3 (j:Nat) (h:j<32):Nat.testBit 252645135 j=decide (j%8<4):=(by decide:∀ j:Fin 32,Nat.testBit 252645135 j.1=decide (j.1%8<4)) ⟨j,h⟩
theorem m4 (j:Nat) (h:j<32):Nat.testBit 16711935 j=decide (j%16<8):=(by decide:∀ j:Fin 32,Nat.testBit 16711935 j.1=decide (j.1%16<8)) ⟨j,h⟩
end Go.Proofs.YtnilonnkcbkdmaaGreatDoor
/- Numbers put where their places' bits, turned round, say. -/
namespace Go.Proofs.YtnilonnkcbkdmaaGreatDoor
open Go.RowKit
set_option linter.unusedVariables false
set_option maxHeartbeats 400000
structure Sw (k p i:Nat) (l o:List Nat):Prop where
 len:o.length=2^k
 lt:∀ x∈o,x<p
 at_:∀ j,j<2^k→lb o j=if j<i∨rev k j<i then lb l (rev k j) else lb l j
theorem Sw.keep {k p i:Nat} {l o:List Nat} (H:Sw k p i l o) (hi:i<2^k) (h:rev k i≤i):Sw k p (i+1) l o:=by
 refine ⟨H.len,H.lt,fun j hj=>?_⟩
 rw [H.at_ j hj]
 by_cases e:j=i
 · subst e
   rw [if_pos (show j<j+1∨_ by omega)]
   by_cases e2:rev k j<j
   · rw [if_pos (.inr e2)]
   · rw [show rev k j=j by omega];simp
 · by_cases e2:rev k j=i
   · have hji:j=rev k i:=by rw [← e2,rev_rev k j hj]
     rw [if_pos (.inl (by omega)),if_pos (.inl (by omega))]
   · by_cases c:j<i∨rev k j<i
     · rw [if_pos c,if_pos (by omega)]
     · rw [if_neg c,if_neg (by omega)]
end Go.Proofs.YtnilonnkcbkdmaaGreatDoor
/- The three primes, and what their roots do. -/
namespace Go.Proofs.YtnilonnkcbkdmaaGreatDoor
open Go.RowKit
set_option linter.unusedVariables false
def pm (p:Nat):Nat→Nat→Nat→Nat
 | 0,_,_=>1%p
 | k+1,b,e=>if e%2=1 then b*pm p k (b*b%p) (e/2)%p else pm p k (b*b%p) (e/2)
theorem F8 (a n p:Nat):(a%p)^n%p=a^n%p:=by rw [← Nat.pow_mod]
theorem pm_eq (p k b e:Nat) (h:e<2^k):pm p k b e=b^e%p:=by
 induction k generalizing b e with
 | zero=>simp at h;subst h;simp [pm]
 | succ k ih =>
  rw [Nat.pow_succ] at h
  have hh:e/2<2^k:=by omega
  have e2:b^(2*(e/2))%p=(b*b%p)^(e/2)%p:=by rw [Nat.pow_mul,F8,Nat.pow_two]
  rw [pm,ih _ _ hh]
  rcases (show e%2=0∨e%2=1 by omega) with h0 | h1
  · rw [if_neg (by omega),← e2];congr 2;omega
  · rw [if_pos h1,← e2,← Nat.mul_mod_mod]
    simp only [Nat.mod_mod]
    rw [Nat.mul_mod_mod,Nat.mul_comm,← Nat.pow_succ];congr 2;omega
structure Fa (f:Fd):Prop where
 good:Good f
 dv:(f.p-1)%2^20=0
 half:f.root^((f.p-1)/2)%f.p=f.p-1
 two:2^(f.p-1)%f.p=1
def F0:Fd:=⟨998244353,3,998244351,932051910,0,232013824⟩
def F1:Fd:=⟨469762049,3,469762047,460175152,305718167,51380224⟩
def F2:Fd:=⟨167772161,3,167772159,40265974,115614034,6553600⟩
theorem rT {p a b:Nat} (h:a%p=b%p):gJ (p:Int) (a:Int) (b:Int):=by
 apply gJ.ahx
 rw [← Int.natCast_emod,← Int.natCast_emod,h]
theorem Fa.ajR {f:Fd} (F:Fa f):gJ (f.p:Int) ((f.root:Int)^((f.p-1)/2)) (-1):=by
 have p0:=F.good.p0
 have h:gJ (f.p:Int) ((f.root^((f.p-1)/2):Nat):Int) ((f.p-1:Nat):Int):=rT (by rw [F.half,Nat.mod_eq_of_lt (by omega)])
 rw [Int.natCast_pow] at h
 exact h.trans ⟨1,by omega⟩
theorem Fa.even {f:Fd} (F:Fa f):f.p-1=2*((f.p-1)/2):=by
 have:=F.dv
 simp only [Nat.reducePow] at this
 omega
theorem Fa.full {f:Fd} (F:Fa f):gJ (f.p:Int) ((f.root:Int)^(f.p-1)) 1:=by
 rw [F.even,Nat.mul_comm,Int.pow_mul]
 have:=F.ajR.pow 2
 rwa [show ((-1:Int))^2=1 by decide] at this
theorem Fa.dvk {f:Fd} (F:Fa f) {k:Nat} (hk:k≤20):(f.p-1)/2^k*2^k=f.p-1:=by
 apply Nat.div_mul_cancel
 exact Nat.dvd_trans (Nat.pow_dvd_pow 2 hk) (Nat.dvd_of_mod_eq_zero F.dv)
theorem Fa.rt {f:Fd} (F:Fa f) {k:Nat} (hk:k≤20):Rt (f.p:Int) ((rt f k:Nat):Int) k:=by
 have hd:=F.dvk hk
 refine ⟨?_,fun h0=>?_⟩
 · rw [Go.Proofs.YtnilonnkcbkdmaaGreatDoor.rt,Int.natCast_pow,← Int.pow_mul,hd];exact F.full
 · rw [Go.Proofs.YtnilonnkcbkdmaaGreatDoor.rt,Int.natCast_pow,← Int.pow_mul]
   have:(f.p-1)/2^k*2^(k-1)=(f.p-1)/2:=by
    obtain ⟨j,rfl⟩:∃ j,k=j+1:=⟨k-1,by omega⟩
    rw [Nat.add_sub_cancel,← hd]
    rw [Nat.pow_succ] at hd ⊢
    rw [show (f.p-1)/(2^j*2)*(2^j*2)=(f.p-1)/(2^j*2)*2^j*2 by rw [Nat.mul_assoc],Nat.mul_div_cancel _ (by decide)]
    rw [show (f.p-1)/(2^j*2)*2^j*2=f.p-1 by rw [Nat.mul_assoc];exact hd]
   rw [this];exact F.ajR
theorem inv_of {f:Fd} (F:Fa f) {x:Nat} (h:gJ (f.p:Int) ((x:Int)^(f.p-1)) 1):gJ (f.p:Int) ((x:Int)*((x^(f.p-2):Nat):Int)) 1:=by
 have p0:=F.good.p0
 rw [Int.natCast_pow,Int.mul_comm,← Int.pow_succ,show (f.p-2).succ=f.p-1 by omega]
 exact h
theorem Fa.ahy {f:Fd} (F:Fa f) (k:Nat):gJ (f.p:Int) (((Go.Proofs.YtnilonnkcbkdmaaGreatDoor.rt f k:Nat):Int)^(f.p-1)) 1:=by
 rw [Go.Proofs.YtnilonnkcbkdmaaGreatDoor.rt,Int.natCast_pow,← Int.pow_mul,Nat.mul_comm,Int.pow_mul]
 have:=F.full.pow ((f.p-1)/2^k)
 rwa [Int.one_pow] at this
theorem Fa.wv {f:Fd} (F:Fa f) (k:Nat):gJ (f.p:Int) (((Go.Proofs.YtnilonnkcbkdmaaGreatDoor.rt f k:Nat):Int)*((bt f k:Nat):Int)) 1:=inv_of F (F.ahy k)
theorem alz {p w v:Int} {k:Nat} (hr:Rt p w k) (h:gJ p (w*v) 1):Rt p v k:=by
 have key:∀ n,gJ p (w^n*v^n) 1:=fun n=>by
  have e:w^n*v^n=(w*v)^n:=by
   induction n with
   | zero=>simp
   | succ n ih=>rw [Int.pow_succ,Int.pow_succ,Int.pow_succ,← ih];grind
  rw [e];have:=h.pow n;rwa [Int.one_pow] at this
 refine ⟨?_,fun h0=>?_⟩
 · have:=(hr.1.mul (gJ.refl p (v^2^k))).symm.trans (key _)
   rwa [Int.one_mul] at this
 · have:=((hr.2 h0).mul (gJ.refl p (v^2^(k-1)))).symm.trans (key _)
   have:=(gJ.refl p (-1)).mul this
   rwa [show (-1:Int)*(-1*v^2^(k-1))=v^2^(k-1) by grind,Int.mul_one] at this
theorem Fa.bt {f:Fd} (F:Fa f) {k:Nat} (hk:k≤20):Rt (f.p:Int) ((bt f k:Nat):Int) k:=alz (F.rt hk) (F.wv k)
structure F9 (f:Fd) (k W S:Nat) (l out:List Nat):Prop where
 len:out.length=2^k
 lt:∀ x∈out,x<f.p
 at_:∀ j,j<2^k→gJ (f.p:Int) (seq out j) ((S:Int)*dft (W:Int) (2^k) (seq l) j)
theorem F9.of {f:Fd} {k W:Nat} {l o o2:List Nat} (h1:Vh f k W l 0 o) (h2:Sw k f.p (2^k) o o2):F9 f k W 1 l o2:=by
 refine ⟨h2.len,h2.lt,fun j hj=>?_⟩
 unfold seq
 rw [h2.at_ j hj,if_pos (.inl hj),Int.natCast_one,Int.one_mul]
 have:=h1.down.done (rev k j) (RZ k j)
 rw [rev_rev k j hj] at this
 exact this
end Go.Proofs.YtnilonnkcbkdmaaGreatDoor
/- The table of the primes; a prime, a root. -/
namespace Go.Proofs.YtnilonnkcbkdmaaGreatDoor
open Go.RowKit
set_option linter.unusedVariables false
set_option maxHeartbeats 400000
def GB (w:World) (o:Nat) (f:Fd):Prop:=w.cell? ⟨0,o,none⟩=some (.int .u32 (f.p:Int))∧w.cell? ⟨0,o+1,none⟩=some (.int .u32 (f.root:Int))∧w.cell? ⟨0,o+2,none⟩=some (.int .u32 (f.neg:Int))∧w.cell? ⟨0,o+3,none⟩=some (.int .u32 (f.square:Int))∧w.cell? ⟨0,o+4,none⟩=some (.int .u32 (f.ahead:Int))
def Gl (w:World):Prop:=0<w.heap.size∧GB w 0 F0∧GB w 5 F1∧GB w 10 F2
theorem GB.keep {w w':World} {o:Nat} {f:Fd} (h:GB w o f) (hk:∀ j,w'.cell? ⟨0,j,none⟩=w.cell? ⟨0,j,none⟩):GB w' o f:=by
 unfold GB at *;simp only [hk];exact h
theorem Gl.below {w w':World} {B:Nat} (h:Gl w) (hB:Below B w w') (h0:0<B):Gl w':=by
 have hk:∀ j,w'.cell? ⟨0,j,none⟩=w.cell? ⟨0,j,none⟩:=fun j=>hB.cell (p:=⟨0,j,none⟩) h0
 exact ⟨Nat.lt_of_lt_of_le h.1 hB.size,h.2.1.keep hk,h.2.2.1.keep hk,h.2.2.2.keep hk⟩
theorem Gl.ext {w w':World} (h:Gl w) (hB:Ext w w'):Gl w':=h.below hB h.1
def fd (i:Nat):Fd:=if i=0 then F0 else if i=1 then F1 else F2
end Go.Proofs.YtnilonnkcbkdmaaGreatDoor
/- The transform. -/
namespace Go.Proofs.YtnilonnkcbkdmaaGreatDoor
open Go.RowKit
set_option linter.unusedVariables false
set_option maxHeartbeats 400000
attribute [local go_sem ↓] dH
attribute [local go_sem] aT
theorem Gl.at_ {w:World} (h:Gl w) {i:Nat} (hi:i<3):GB w (i*5) (fd i):=by
 rcases (show i=0∨i=1∨i=2 by omega) with rfl | rfl | rfl
 · exact h.2.1
 · exact h.2.2.1
 · exact h.2.2.2
end Go.Proofs.YtnilonnkcbkdmaaGreatDoor
/- The transform, back. -/
namespace Go.Proofs.YtnilonnkcbkdmaaGreatDoor
open Go.RowKit
set_option linter.unusedVariables false
set_option maxHeartbeats 400000
attribute [local go_sem ↓] dH
attribute [local go_sem] aT
structure Bk (f:Fd) (n S m:Nat) (l o:List Nat):Prop where
 len:o.length=n
 lt:∀ x∈o,x<f.p
 at_:∀ i,lb o i=if i<m then mm f (lb l i) (zo f S) else lb l i
theorem Bk.step {f:Fd} {n S m:Nat} {l o:List Nat} (H:Bk f n S m l o) (hf:Good f) (hm:m<n):Bk f n S (m+1) l (o.set m (mm f (lb o m) (zo f S))):=by
 refine ⟨by simp [H.len],gm H.lt (aaM f hf _ _),fun i=>?_⟩
 have e0:lb o m=lb l m:=by rw [H.at_ m,if_neg (Nat.lt_irrefl m)]
 rw [lV _ _ _ _ (by rw [H.len];exact hm),e0]
 by_cases e:m=i
 · subst e;rw [if_pos rfl,if_pos (by omega)]
 · rw [if_neg e,H.at_ i]
   by_cases c:i<m
   · rw [if_pos c,if_pos (by omega)]
   · rw [if_neg c,if_neg (by omega)]
theorem F9.times {f:Fd} {k W S:Nat} {l o6 o:List Nat} (h:F9 f k W 1 l o6) (hf:Good f) (H:Bk f (2^k) S (2^k) o6 o):F9 f k W S l o:=by
 refine ⟨H.len,H.lt,fun j hj=>?_⟩
 unfold seq
 rw [H.at_ j,if_pos hj]
 refine (xB f hf _ _).trans ?_
 have:=(h.at_ j hj).mul (gJ.refl (f.p:Int) (S:Int))
 rw [Int.natCast_one,Int.one_mul,Int.mul_comm (dft _ _ _ _)] at this
 exact this
end Go.Proofs.YtnilonnkcbkdmaaGreatDoor
/- Where there is no transform. -/
namespace Go.Proofs.YtnilonnkcbkdmaaGreatDoor
open Go.RowKit
set_option linter.unusedVariables false
set_option maxHeartbeats 400000
theorem U.shape {w:World} {v:Value} {xs:List Nat} (h:U w v xs):∃ A c,v = .slice A xs.length c∧xs.length≤c:=by
 obtain ⟨A,c,rfl,hc,_⟩:=h;exact ⟨A,c,rfl,hc.1⟩
end Go.Proofs.YtnilonnkcbkdmaaGreatDoor
/- Sums of products of limbs; rows of three limbs each. -/
namespace Go.Proofs.YtnilonnkcbkdmaaGreatDoor
open Go.RowKit
set_option linter.unusedVariables false
def cv (a b:List Nat):Nat→Nat→Nat
 | 0,_=>0
 | i+1,m=>cv a b i m+if i≤m then lb a i*lb b (m-i) else 0
theorem IC {x y:Nat} (hx:x<4294967296) (hy:y<4294967296):x*y≤18446744065119617025:=Nat.mul_le_mul (show x≤4294967295 by omega) (show y≤4294967295 by omega)
def conv (a b:List Nat):List Nat:=(List.range (a.length+b.length-1)).map fun m=>cv a b a.length m
theorem Uw (n:Nat) (f:Nat→Nat) (m:Nat) (h:m<n):lb ((List.range n).map f) m=f m:=by simp [lb,h]
def fl:List Nat→List Nat
 | []=>[]
 | c::cs=>c%4294967296::c/4294967296%4294967296::c/18446744073709551616%4294967296::fl cs
theorem apa (cs:List Nat):(fl cs).length=cs.length*3:=by
 induction cs with
 | nil=>rfl
 | cons c cs ih=>simp only [fl,List.length_cons,ih];omega
def Own3 (w:World) (base:Nat) (v:Value) (cs:List Nat):Prop:=w.ownsRow base 157 3 v cs.length (ou (fl cs))
theorem Own3.block {w:World} {base g n c:Nat} {o:List Nat} (h:Own3 w base (.slice (some ⟨g,0,none⟩) n c) o):base≤g∧g<w.heap.size:=by
 have h0:w.ownsRow base 157 3 (.slice (some ⟨g,0,none⟩) n c) o.length (ou (fl o)):=h
 exact h0.lt g rfl
theorem Own3.caps {w:World} {base g n c:Nat} {o:List Nat} (h:Own3 w base (.slice (some ⟨g,0,none⟩) n c) o):n=o.length∧n≤c∧c≤maxLen:=by
 rcases h.2 with ⟨h1,_⟩ | ⟨g',cap,cur,h1,hg,hh,h2,h3,h4,h5⟩
 · cases h1
 · injection h1 with e1 e2 e3
   subst e2 e3
   exact ⟨rfl,h2,h3⟩
theorem Own3.below {w w':World} {base B:Nat} {v:Value} {o:List Nat} (h:Own3 w base v o) (hB:Below B w w') (hv:∀ g,v.ownBlock=some g→g<B):Own3 w' base v o:=by
 refine ⟨h.1,?_⟩
 rcases h.2 with hn | ⟨g,cap,cur,rfl,hb,hgg,rest⟩
 · exact .inl hn
 · refine .inr ⟨g,cap,cur,rfl,hb,?_,rest⟩
   rw [hB.block g (hv g rfl)]
   exact hgg
theorem Own3.ext {w w':World} {base g n c:Nat} {o:List Nat} (h:Own3 w base (.slice (some ⟨g,0,none⟩) n c) o) (hB:Ext w w'):Own3 w' base (.slice (some ⟨g,0,none⟩) n c) o :=
 h.below hB (fun g' hg=>by injection hg with hg;subst hg;exact h.block.2)
theorem Own3.cell {w:World} {base g n c:Nat} {o:List Nat} (h:Own3 w base (.slice (some ⟨g,0,none⟩) n c) o) {j:Nat} (hj:j<o.length*3):w.cell? ⟨g,j,none⟩=some (.int .u32 (lb (fl o) j:Nat)):=by
 obtain ⟨e,_,_⟩:=h.caps
 subst e
 have h0:w.ownsRow base 157 3 (.slice (some ⟨g,0,none⟩) o.length c) o.length (ou (fl o)):=h
 rw [World.ownsRow.cellAt h0 j hj];exact nO _ (by rw [apa];exact hj)
end Go.Proofs.YtnilonnkcbkdmaaGreatDoor
/- Are two rows the same; sums of products of short rows. -/
namespace Go.Proofs.YtnilonnkcbkdmaaGreatDoor
open Go.RowKit
set_option linter.unusedVariables false
set_option maxHeartbeats 400000
def U3 (w:World) (v:Value) (cs:List Nat):Prop :=
 ∃ (A:Option Addr) (c:Nat),v = .slice A cs.length c∧(cs.length≤c∧cs.length≤9223372036854775807) ∧
  (0<cs.length→∃ ad,A=some ad∧ad.block<w.heap.size∧∀ j,j<cs.length*3→w.cell? (ad.add j)=some (.int .u32 (lb (fl cs) j:Nat)))
theorem U3.below {w w':World} {v:Value} {cs:List Nat} (h:U3 w v cs) (hb:Below w.heap.size w w'):U3 w' v cs:=by
 obtain ⟨A,c,rfl,hc,hr⟩:=h
 refine ⟨A,c,rfl,hc,fun h0=>?_⟩
 obtain ⟨ad,hA,hbk,hcell⟩:=hr h0
 exact ⟨ad,hA,Nat.lt_of_lt_of_le hbk hb.size,fun j hj=>(hb.cell (p:=ad.add j) (by rw [aM];exact hbk)).trans (hcell j hj)⟩
theorem U3.alloc {w:World} {v:Value} {xs:List Nat} (h:U3 w v xs) (o:Obj):U3 (w.alloc o) v xs:=U3.below h ((Ext.refl w).alloc o)
theorem ajd (a:Addr) (n:Nat) (h:n≠0):a.add n=⟨a.block,a.off+n,none⟩:=by unfold Addr.add;simp [h]
end Go.Proofs.YtnilonnkcbkdmaaGreatDoor
/- Sums of products of rows of which one is short. -/
namespace Go.Proofs.YtnilonnkcbkdmaaGreatDoor
open Go.RowKit
set_option linter.unusedVariables false
set_option maxHeartbeats 400000
def cvs (a b:List Nat):List Nat:=if a.length=0∨b.length=0 then [] else conv a b
end Go.Proofs.YtnilonnkcbkdmaaGreatDoor
/- The transform as one row of numbers; the contracts in one form. -/
namespace Go.Proofs.YtnilonnkcbkdmaaGreatDoor
open Go.RowKit
set_option linter.unusedVariables false
set_option maxHeartbeats 400000
def Q5:Nat→(Nat→Nat)→Nat
 | 0,_=>0
 | n+1,f=>Q5 n f+f n
theorem aab (n:Nat) (f:Nat→Nat):((Q5 n f:Nat):Int)=sm n fun i=>((f i:Nat):Int):=by
 induction n with
 | zero=>rfl
 | succ n ih=>rw [Q5,qd,← ih,Int.natCast_add]
theorem afR (n p:Nat) (f g:Nat→Nat) (h:∀ i,i<n→f i%p=g i%p):Q5 n f%p=Q5 n g%p:=by
 induction n with
 | zero=>rfl
 | succ n ih=>rw [Q5,Q5,Nat.add_mod,ih fun i hi=>h i (by omega),h n (by omega),← Nat.add_mod]
def dv (p W S n:Nat) (l:List Nat) (j:Nat):Nat:=S*Q5 n (fun i=>lb l i*W^(i*j))%p
def trv (p W S n:Nat) (l:List Nat):List Nat:=(List.range n).map (dv p W S n l)
theorem aje (p W S n:Nat) (l:List Nat):(trv p W S n l).length=n:=by simp [trv]
theorem apb (p W S n:Nat) (l:List Nat) (j:Nat) (h:j<n):lb (trv p W S n l) j=dv p W S n l j:=Uw _ _ _ h
theorem apc (p W S n:Nat) (l:List Nat) (j:Nat):dv p W S n l j=dv p (W%p) (S%p) n l j:=by
 unfold dv
 rw [F7,Nat.mul_mod,afR n p _ (fun i=>lb l i*(W%p)^(i*j)) (fun i _=>by rw [Nat.mul_mod,← F8,← Nat.mul_mod]),← Nat.mul_mod]
theorem ajf (p W S n:Nat) (l:List Nat):trv p W S n l=trv p (W%p) (S%p) n l:=by
 unfold trv
 exact List.map_congr_left fun j _=>apc p W S n l j
theorem avw (p W S n:Nat) (l:List Nat) (j:Nat) (hp:0<p):dv p W S n l j<p:=Nat.mod_lt _ hp
theorem apd (p W S n:Nat) (l:List Nat) (j:Nat):gJ (p:Int) ((dv p W S n l j:Nat):Int) ((S:Int)*dft (W:Int) n (seq l) j):=by
 unfold dv dft seq
 refine (gJ.FC _ _).trans (gJ.of_eq ?_)
 rw [Int.natCast_mul,aab]
 congr 1
theorem F9.eq {f:Fd} {k W S:Nat} {l out:List Nat} (h:F9 f k W S l out) (hp:0<f.p):out=trv f.p W S (2^k) l:=by
 refine rP (by rw [h.len,aje]) fun j hj=>?_
 rw [h.len] at hj
 rw [apb _ _ _ _ _ _ hj]
 exact ((h.at_ j hj).trans (apd _ _ _ _ _ _).symm).eq (eX hp h.lt _) (avw _ _ _ _ _ _ hp)
theorem Ux (f:Fd) (k v:Nat) (h1:(f.p-1)/2^k<2^30) (h:pm f.p 30 f.root ((f.p-1)/2^k)=v):rt f k%f.p=v:=by
 unfold rt;rw [← pm_eq _ 30 _ _ h1];exact h
theorem afS (f:Fd) (k r v:Nat) (hr:rt f k%f.p=r) (h1:f.p-2<2^30) (h:pm f.p 30 r (f.p-2)=v):bt f k%f.p=v:=by
 unfold bt;rw [← F8,hr,← pm_eq _ 30 _ _ h1];exact h
theorem afT (f:Fd) (n v:Nat) (h1:f.p-2<2^30) (h:pm f.p 30 n (f.p-2)=v):sh f n%f.p=v:=by
 unfold sh;rw [← pm_eq _ 30 _ _ h1];exact h
theorem NZ (p W S n:Nat) (l out:List Nat) (W' S':Nat) (hW:W%p=W') (hS:S%p=S') (h:trv p W' S' n l=out):trv p W S n l=out:=by
 rw [ajf,hW,hS];exact h
theorem avx:rt (fd 0) 1%(fd 0).p=998244352:=Ux _ _ _ (by decide +kernel) (by decide +kernel)
theorem aAT:rt (fd 2) 2%(fd 2).p=65249968:=Ux _ _ _ (by decide +kernel) (by decide +kernel)
theorem aAU:rt (fd 1) 0%(fd 1).p=1:=Ux _ _ _ (by decide +kernel) (by decide +kernel)
theorem hv1:trv (fd 0).p (rt (fd 0) 1) 1 (2^1) [5,7]=[12,998244351]:=NZ _ _ _ _ _ _ _ 1 avx (by decide +kernel) (by decide +kernel)
theorem hv2:trv (fd 0).p (bt (fd 0) 1) (sh (fd 0) (2^1)) (2^1) [12,998244351]=[5,7] :=
 NZ _ _ _ _ _ _ 998244352 499122177 (afS _ _ _ _ avx (by decide +kernel) (by decide +kernel)) (afT _ _ _ (by decide +kernel) (by decide +kernel)) (by decide +kernel)
theorem hv3:trv (fd 2).p (rt (fd 2) 2) 1 (2^2) [1,2,3,4]=[10,37272223,167772159,130499934]:=NZ _ _ _ _ _ _ _ 1 aAT (by decide +kernel) (by decide +kernel)
theorem hv4:trv (fd 1).p (bt (fd 1) 0) (sh (fd 1) (2^0)) (2^0) [9]=[9] :=
 NZ _ _ _ _ _ _ 1 1 (afS _ _ _ _ aAU (by decide +kernel) (by decide +kernel)) (afT _ _ _ (by decide +kernel) (by decide +kernel)) (by decide +kernel)
theorem hv5:cvs [4294967295] [4294967295]=[18446744065119617025]:=by decide +kernel
theorem hv6:cvs [1,2] [3,4,5]=[3,10,13,10]:=by decide +kernel
end Go.Proofs.YtnilonnkcbkdmaaGreatDoor
/- Limbs to the base 2^32 and the numbers that they are: plain lists and naturals. -/
namespace Go.Proofs.YtnilonnkcbkdmaaGreatDoor
def val:List Nat→Nat
 | []=>0
 | x::xs=>x+4294967296*val xs
def limbs (n:Nat):List Nat:=if h:n=0 then [] else n%4294967296::limbs (n/4294967296)
termination_by n
decreasing_by exact Nat.div_lt_self (Nat.pos_of_ne_zero h) (by decide)
theorem bf:limbs 0=[]:=by rw [limbs];simp
theorem eG {n:Nat} (h:n≠0):limbs n=n%4294967296::limbs (n/4294967296):=by rw [limbs];simp [h]
theorem aG (n:Nat):val (limbs n)=n:=by
 induction n using Nat.strongRecOn with
 | _ n ih =>
  by_cases h:n=0
  · subst h;rw [bf];rfl
  · rw [eG h]
    have:=ih (n/4294967296) (Nat.div_lt_self (Nat.pos_of_ne_zero h) (by decide))
    simp only [val,this]
    omega
theorem mD (n:Nat):∀ x∈limbs n,x<4294967296:=by
 induction n using Nat.strongRecOn with
 | _ n ih =>
  by_cases h:n=0
  · subst h;rw [bf];simp
  · rw [eG h]
    intro x hx
    rcases List.mem_cons.1 hx with rfl | hx
    · omega
    · exact ih (n/4294967296) (Nat.div_lt_self (Nat.pos_of_ne_zero h) (by decide)) x hx
theorem val_append (xs ys:List Nat):val (xs++ys)=val xs+4294967296^xs.length*val ys:=by
 induction xs with
 | nil=>simp [val]
 | cons x xs ih =>
  simp only [List.cons_append,val,ih,List.length_cons,Nat.pow_succ]
  rw [Nat.mul_add,Nat.add_assoc]
  congr 2
  rw [← Nat.mul_assoc,Nat.mul_comm 4294967296]
theorem lM (xs:List Nat) (h:∀ x∈xs,x<4294967296):val xs<4294967296^xs.length:=by
 induction xs with
 | nil=>simp [val]
 | cons x xs ih =>
  have h1:=ih fun y hy=>h y (List.mem_cons_of_mem _ hy)
  have h2:=h x (List.mem_cons_self ..)
  simp only [val,List.length_cons,Nat.pow_succ]
  rw [Nat.mul_comm]
  have:val xs*4294967296+4294967296≤4294967296^xs.length*4294967296:=by
   have:=Nat.mul_le_mul_right 4294967296 (show val xs+1≤4294967296^xs.length from h1)
   rw [Nat.add_mul] at this
   omega
  omega
theorem bM (k:Nat):val (List.replicate k 0)=0:=by
 induction k with
 | zero=>rfl
 | succ k ih=>simp [List.replicate_succ,val,ih]
theorem Mw (xs:List Nat) (h:∀ x∈xs,x<4294967296) (hl:xs≠[]→xs[xs.length-1]?.getD 0≠0):limbs (val xs)=xs:=by
 induction xs with
 | nil=>rw [val,bf]
 | cons x xs ih =>
  have h2:=h x (List.mem_cons_self ..)
  have ih':=ih (fun y hy=>h y (List.mem_cons_of_mem _ hy)) (fun hne=>by
   have:=hl (by simp)
   cases xs with
   | nil=>exact absurd rfl hne
   | cons y ys=>simpa using this)
  have hne:val (x::xs)≠0:=by
   cases xs with
   | nil=>have:=hl (by simp);simp [val] at this ⊢;exact this
   | cons y ys =>
    intro h0
    simp only [val] at h0
    have:val (y::ys)=0:=by simp only [val];omega
    rw [this,bf] at ih'
    cases ih'
  rw [eG hne]
  have e1:val (x::xs)%4294967296=x:=by simp only [val];omega
  have e2:val (x::xs)/4294967296=val xs:=by simp only [val];omega
  rw [e1,e2,ih']
theorem IA {n:Nat} (h:n≠0):(limbs n)[(limbs n).length-1]?.getD 0≠0:=by
 induction n using Nat.strongRecOn with
 | _ n ih =>
  rw [eG h]
  by_cases h2:n/4294967296=0
  · rw [h2,bf]
    simp;omega
  · have:=ih _ (Nat.div_lt_self (Nat.pos_of_ne_zero h) (by decide)) h2
    rw [eG h2] at this ⊢
    simpa using this
theorem MI {n:Nat}:limbs n=[]↔n=0:=by
 constructor
 · intro h
   have:=aG n
   rw [h] at this
   exact this.symm
 · rintro rfl;exact bf
theorem aay {n m:Nat} (h:limbs n=limbs m):n=m:=by rw [← aG n,h,aG]
theorem pO (n:Nat):n<4294967296^(limbs n).length:=by
 have:=lM (limbs n) (mD n)
 rwa [aG] at this
theorem U7 {n:Nat} (h:n≠0):4294967296^((limbs n).length-1)≤n:=by
 induction n using Nat.strongRecOn with
 | _ n ih =>
  rw [eG h]
  by_cases h2:n/4294967296=0
  · rw [h2,bf]
    simp;omega
  · have:=ih _ (Nat.div_lt_self (Nat.pos_of_ne_zero h) (by decide)) h2
    have hl:0<(limbs (n/4294967296)).length:=by
     rw [eG h2];simp
    simp only [List.length_cons,Nat.add_sub_cancel]
    obtain ⟨k,hk⟩:∃ k,(limbs (n/4294967296)).length=k+1:=⟨_,(Nat.succ_pred_eq_of_pos hl).symm⟩
    rw [hk] at this ⊢
    simp only [Nat.add_sub_cancel] at this
    rw [Nat.pow_succ]
    have:=Nat.mul_le_mul_right 4294967296 this
    omega
theorem fM {n k:Nat} (h:n<4294967296^k):(limbs n).length≤k:=by
 by_cases h0:n=0
 · subst h0;rw [bf];simp
 · have:=U7 h0
   have h1:4294967296^((limbs n).length-1)<4294967296^k:=Nat.lt_of_le_of_lt this h
   have:=(Nat.pow_lt_pow_iff_right (by decide:1<4294967296)).1 h1
   omega
theorem gV {n m:Nat} (h:n≤m):(limbs n).length≤(limbs m).length :=
 fM (Nat.lt_of_le_of_lt h (pO m))
theorem Ru (xs:List Nat) (k:Nat) (h:∀ j,k≤j→j<xs.length→xs[j]?.getD 0=0):val (xs.take k)=val xs:=by
 have e:xs=xs.take k++xs.drop k:=(List.take_append_drop k xs).symm
 have hz:val (xs.drop k)=0:=by
  have:xs.drop k=List.replicate (xs.drop k).length 0:=by
   apply List.ext_getElem (by simp)
   intro i h1 h2
   have hi:k+i<xs.length:=by simp at h1;omega
   have:=h (k+i) (by omega) hi
   simp [List.getElem?_eq_getElem hi] at this
   simp [this]
  rw [this,bM]
 conv=>rhs;rw [e,val_append,hz]
 simp
theorem U8 (xs:List Nat) (k:Nat) (hx:∀ x∈xs,x<4294967296) (hk:k≤xs.length) (h:∀ j,k≤j→j<xs.length→xs[j]?.getD 0=0)
  (hl:0<k→xs[k-1]?.getD 0≠0):limbs (val xs)=xs.take k:=by
 rw [← Ru xs k h]
 apply Mw
 · intro x hx';exact hx x (List.mem_of_mem_take hx')
 · intro hne
   have h0:0<k:=by
    rcases Nat.eq_zero_or_pos k with rfl | h0
    · simp at hne
    · exact h0
   have hlen:(xs.take k).length=k:=by simp;omega
   rw [hlen,List.getElem?_take,if_pos (by omega)]
   exact hl h0
theorem iJ (xs:List Nat) (k:Nat) (hx:∀ x∈xs,x<4294967296) (hk:k≤xs.length) (h:∀ j,k≤j→j<xs.length→lb xs j=0)
 (hl:0<k→lb xs (k-1)≠0):limbs (val xs)=xs.take k:=U8 xs k hx hk h hl
theorem rR (n j:Nat):lb (limbs n) j=n/4294967296^j%4294967296:=by
 unfold lb
 induction j generalizing n with
 | zero =>
  by_cases h:n=0
  · subst h;rw [bf];simp
  · rw [eG h];simp
 | succ j ih =>
  by_cases h:n=0
  · subst h;rw [bf];simp
  · rw [eG h,Nat.pow_succ',← Nat.div_div_eq_div_mul,← ih]
    simp
def bQ (x y:Int):Int:=if x<y then -1 else if y<x then 1 else 0
def fQ (n:Nat) (i:Int):Nat:=if i<0 then 0 else n/2^i.toNat%2
end Go.Proofs.YtnilonnkcbkdmaaGreatDoor
/- A slice of 32-bit limbs that reads as a list of naturals; kept while what lay in memory is kept. -/
namespace Go.Proofs.YtnilonnkcbkdmaaGreatDoor
open Go.RowKit
def Un (w:World) (v:Value) (n:Nat):Prop:=U w v (limbs n)
theorem Un.below {w w':World} {v:Value} {n:Nat} (h:Un w v n) (hb:Below w.heap.size w w'):Un w' v n:=U.below h hb
end Go.Proofs.YtnilonnkcbkdmaaGreatDoor
/- walks -/
namespace Go.Proofs.YtnilonnkcbkdmaaGreatDoor
open Go.RowKit
set_option linter.unusedVariables false
set_option maxHeartbeats 400000
set_option maxRecDepth 100000
theorem nV (w:World) (v:Value) (xs:List Nat) (h:U w v xs) :
  Calls Tryz.prog 77 #[v] w fun e w'=>(∃ u,e = .returned u∧U w u (limbs (val xs)))∧w=w':=by
 have h':=h
 obtain ⟨A,c,rfl,⟨hc,hm⟩,hx,hr⟩:=h
 go_enter Tryz.func77,Tryz.ntmps77
 go_wp2
 go_loop [3] (fun n=>∃ k:Nat,k≤xs.length∧n = .int .i64 k∧Hid (∀ j,k≤j→j<xs.length→lb xs j=0)) (fun n=>(intOf n).toNat)
 case atStart=>exact ⟨xs.length,Nat.le_refl _,rfl,fun j h1 h2=>by omega⟩
 case round =>
  obtain ⟨k,hk,rfl,hz⟩:=hrel
  have hfin:∀ c',k≤c'→(0<k→lb xs (k-1)≠0)→U w (.slice A k c') (limbs (val xs)):=fun c' h1 h2=>by
   rw [iJ xs k hx hk hz.out h2];exact h'.take hk h1
  rcases Nat.eq_zero_or_pos k with rfl | h0
  · have HF:=Lib.hid (hfin 0 (Nat.le_refl _) (fun h=>absurd h (by omega)))
    clear hfin
    go_wp2
    go_ways
    go_ret
    exact ⟨⟨_,rfl,HF.out⟩,rfl⟩
  · obtain ⟨ad,rfl,hb,hcell⟩:=hr (by omega)
    have hc1:=hcell (k-1) (by omega)
    by_cases hx0:lb xs (k-1)=0
    · have ht:((((lb xs (k-1):Nat)):Int)==0)=true:=by rw [hx0];rfl
      have HX:=Lib.hid hx0
      clear hx0
      go_wp2
      go_round
      case rel=>exact ⟨k-1,by omega,by go_num,fun j h1 h2=>by
       rcases Nat.lt_or_ge j k with h3 | h3
       · have:j=k-1:=by omega
         subst this;exact HX.out
       · exact hz.out j h3 h2⟩
      case measure=>simp [intOf];omega
    · have ht:((((lb xs (k-1):Nat)):Int)==0)=false:=by rw [beq_eq_false_iff_ne];omega
      have HF:=Lib.hid (hfin k (Nat.le_refl _) (fun _=>hx0))
      clear hfin hx0
      go_wp2
      go_ret
      exact ⟨⟨_,rfl,HF.out⟩,rfl⟩
end Go.Proofs.YtnilonnkcbkdmaaGreatDoor
/- walks -/
namespace Go.Proofs.YtnilonnkcbkdmaaGreatDoor
open Go.RowKit
set_option linter.unusedVariables false
set_option maxHeartbeats 400000
set_option maxRecDepth 100000
theorem U4 (w:World) (v u:Value) (xs ys:List Nat) (h:U w v xs) (g:U w u ys) :
  Calls Tryz.prog 19 #[v,u] w fun e w'=>e = .returned (.bool (decide (xs=ys)))∧∃ n,w'=w.drewN n:=by
 obtain ⟨A,c,rfl,⟨hc,hm⟩,hx,hr⟩:=h
 obtain ⟨A2,c2,rfl,⟨hc2,hm2⟩,hx2,hr2⟩:=g
 by_cases hl:xs.length=ys.length
 · have hl1:(((xs.length:Nat):Int) != ((ys.length:Nat):Int))=false:=by rw [bne_eq_false_iff_eq,hl]
   have HL:=Lib.hid hl
   clear hl
   go_enter Tryz.func19,Tryz.ntmps19
   go_wp2
   go_loopw [5] (fun n wr=>∃ k:Nat,k≤xs.length∧n = .int .i64 k∧Hid (∀ j,j<k→lb xs j=lb ys j)∧∃ m,wr=w.drewN m) (fun n _=>xs.length-(intOf n).toNat)
   case atStart=>exact ⟨0,Nat.zero_le _,rfl,fun j h=>by omega,0,rfl⟩
   case round =>
    obtain ⟨k,hk,rfl,hz,m,rfl⟩:=hrel
    by_cases hlt:k<xs.length
    · obtain ⟨ad,rfl,hb,hcell⟩:=hr (by omega)
      obtain ⟨IB,rfl,hb2,hcell2⟩:=hr2 (by have:=HL.out;omega)
      have hc1:=hcell k hlt
      have hc3:=hcell2 k (by have:=HL.out;omega)
      have hk2:((k:Nat):Int)<ys.length:=by have:=HL.out;omega
      by_cases he:lb xs k=lb ys k
      · have ht:((((lb xs k:Nat)):Int) != ((lb ys k:Nat):Int))=false:=by rw [bne_eq_false_iff_eq,he]
        have HX:=Lib.hid he
        clear he
        go_wp2
        go_quiet (fail)
        go_wp2
        go_roundw
        case rel=>exact ⟨k+1,by omega,by go_num,fun j h1=>by
         rcases Nat.lt_or_ge j k with h3 | h3
         · exact hz.out j h3
         · have:j=k:=by omega
           subst this;exact HX.out,_,rfl⟩
        case measure=>simp [intOf];omega
      · have ht:((((lb xs k:Nat)):Int) != ((lb ys k:Nat):Int))=true:=by rw [bne_iff_ne];omega
        have HX:=Lib.hid he
        clear he
        have hf:decide (xs=ys)=false:=decide_eq_false fun h=>HX.out (by rw [h])
        have HF:=Lib.hid hf
        clear hf
        go_wp2
        go_quiet (fail)
        go_wp2
        go_ret
        exact ⟨by rw [HF.out];rfl,_,World.drewN_drewN _ _ _⟩
    · have hf:decide (xs=ys)=true:=decide_eq_true (rP HL.out fun j hj=>hz.out j (by omega))
      have HF:=Lib.hid hf
      clear hf
      go_wp2
      go_ret
      exact ⟨by rw [HF.out];rfl,_,rfl⟩
 · have hl1:(((xs.length:Nat):Int) != ((ys.length:Nat):Int))=true:=by rw [bne_iff_ne];omega
   have hf:decide (xs=ys)=false:=decide_eq_false fun h=>hl (by rw [h])
   have HF:=Lib.hid hf
   clear hl hf
   go_enter Tryz.func19,Tryz.ntmps19
   go_wp2
   go_ret
   exact ⟨by rw [HF.out];rfl,0,rfl⟩
end Go.Proofs.YtnilonnkcbkdmaaGreatDoor
