/- Base. -/
import Derived.Test.YtgcieamfidoaoaaGreatDoorGat
import Derived.Test.YtgcieamfidoaoaaGreatDoorGau
import Derived.Laws.IdiomArrays
import Derived.WideKeyPair
import Derived.WideKeyArr2
set_option linter.all false
set_option maxHeartbeats 8000000
namespace Go.Proofs.YtgcieamfidoaoaaGreatDoor
open Pl Go.Proofs.Tryz
open Go.RowKit
def Zn (w:World) (v:Value) (z:Int):Prop:=∃ A c,v = .agg #[.bool (decide (z<0)),.slice A (limbs z.natAbs).length c]∧Un w (.slice A (limbs z.natAbs).length c) z.natAbs
theorem Zn.below {w w':World} {v:Value} {z:Int} (h:Zn w v z) (k:Ext w w'):Zn w' v z:=by obtain ⟨A,c,e,hu⟩:=h;exact ⟨A,c,e,Un.below hu k⟩
def sg (b:Bool) (n:Nat):Int:=if b then -(n:Int) else (n:Int)
theorem sW (b:Bool) (n:Nat):(sg b n).natAbs=n:=by unfold sg;split<;>omega
theorem Wu (b:Bool) (n:Nat):decide (sg b n<0)=(b&&decide (0<n)):=by
 unfold sg;cases b
 · simp
 · simp
theorem QC (n:Nat):sg true n = -(n:Int):=rfl
theorem Wv (n:Nat):sg false n=(n:Int):=rfl
theorem af2 (z:Int):sg (decide (z<0)) z.natAbs=z:=by
 unfold sg;by_cases h:z<0
 · rw [decide_eq_true h,if_pos rfl];omega
 · rw [decide_eq_false h,if_neg (by decide)];omega
theorem Zn.mk' {w:World} {A:Option Addr} {L c n:Nat} {z:Int} {b:Bool} (hu:Un w (.slice A L c) n) (hL:(limbs n).length=L) (hz:z.natAbs=n) (hs:decide (z<0)=b):Zn w (.agg #[.bool b,.slice A L c]) z:=by subst hs hz hL;exact ⟨A,c,rfl,hu⟩
theorem Zn.zero (w:World) (A:Option Addr) (c:Nat):Zn w (.agg #[.bool false,.slice A 0 c]) 0:=by
 refine ⟨A,c,?_,?_⟩
 · show _=Value.agg #[.bool false,.slice A (limbs 0).length c];rw [bF];rfl
 · show Un w (.slice A (limbs 0).length c) 0;rw [Un,bF];exact U.zZ _ _ _
theorem Zn.open {w:World} {v:Value} {z:Int} (h:Zn w v z):∃ (b:Bool) (A:Option Addr) (L c n:Nat),v = .agg #[.bool b,.slice A L c]∧Un w (.slice A L c) n∧(limbs n).length=L∧z=sg b n∧(b=true→n≠0)∧z.natAbs=n∧decide (z<0)=b:=by obtain ⟨A,c,e,hu⟩:=h;refine ⟨decide (z<0),A,_,c,z.natAbs,e,hu,rfl,(af2 z).symm,fun hb=>?_,rfl,rfl⟩;have:=of_decide_eq_true hb;omega
theorem U.af3 {w:World} {v:Value} {xs:List Nat} (h:U w v xs) {p:Addr} {old:Value} (hp:w.cell? p=some old) (ho:∀ k n,old≠.int k n) (x:Value):U (w.setCell p x) v xs:=by
 obtain ⟨A,c,rfl,hc,hx,hr⟩:=h;refine ⟨A,c,rfl,hc,hx,fun h0=>?_⟩;obtain ⟨ad,hA,hb,hcell⟩:=hr h0;refine ⟨ad,hA,by simpa using hb,fun j hj=>?_⟩;have h1:=hcell j hj;rw [World.cell?_setCell_other]
 · exact h1
 · intro e;rw [e,h1] at hp;exact ho _ _ (Option.some.inj hp).symm
def Ib (w:World) (N:Nat) (b:Bool) (m:Value):Prop:=N<w.heap.size∧w.cell? ⟨N,0,none⟩=some (.bool b)∧w.cell? ⟨N,1,none⟩=some m∧w.frozen? ⟨N,0,none⟩=false∧w.frozen? ⟨N,1,none⟩=false
theorem Ib.ext {w w':World} {N:Nat} {b:Bool} {m:Value} (h:Ib w N b m) (k:Ext w w'):Ib w' N b m:=by obtain ⟨h0,h1,h2,h3,h4⟩:=h;exact ⟨Nat.lt_of_lt_of_le h0 k.size,(k.cell (p:=⟨N,0,none⟩) h0).trans h1,(k.cell (p:=⟨N,1,none⟩) h0).trans h2,(k.frozen (p:=⟨N,0,none⟩) h0).trans h3,(k.frozen (p:=⟨N,1,none⟩) h0).trans h4⟩
theorem Ib.new (w:World) (b:Bool) (m:Value) (T:TypeId):Ib (w.alloc (.cells #[.bool b,m] T)) w.heap.size b m:=by refine ⟨by simp,?_,?_,?_,?_⟩<;>go_simp
theorem Ib.new2 (w:World) (o:Obj) (b:Bool) (m:Value) (T:TypeId):Ib ((w.alloc o).alloc (.cells #[.bool b,m] T)) (w.heap.size+1) b m:=by have:=Ib.new (w.alloc o) b m T;simpa using this
theorem Ib.wP (w:World) (o o2:Obj) (b:Bool) (m:Value) (T:TypeId):Ib (((w.alloc o).alloc o2).alloc (.cells #[.bool b,m] T)) (w.heap.size+1+1) b m:=by have:=Ib.new2 (w.alloc o) o2 b m T;simpa using this
theorem Un.gB {w:World} {v:Value} {n N:Nat} {b:Bool} {m:Value} (h:Un w v n) (hI:Ib w N b m) (hm:∀ k x,m≠.int k x) (x y:Value):Un ((w.setCell ⟨N,0,none⟩ x).setCell ⟨N,1,none⟩ y) v n:=by obtain ⟨h0,h1,h2,h3,h4⟩:=hI;refine U.af3 (U.af3 h h1 (fun _ _ e=>by cases e) x) (old:=m) ?_ hm y;rw [World.cell?_setCell_other _ _ _ _ (fun e=>by cases e)];exact h2
theorem Zn.gB {w:World} {v:Value} {z:Int} {N:Nat} {b:Bool} {m:Value} (h:Zn w v z) (hI:Ib w N b m) (hm:∀ k x,m≠.int k x) (x y:Value):Zn ((w.setCell ⟨N,0,none⟩ x).setCell ⟨N,1,none⟩ y) v z:=by obtain ⟨A,c,e,hu⟩:=h;exact ⟨A,c,e,Un.gB hu hI hm x y⟩
theorem Ext.gB {w0 w:World} {N:Nat} (h:Ext w0 w) (hN:w0.heap.size≤N) (x y:Value):Ext w0 ((w.setCell ⟨N,0,none⟩ x).setCell ⟨N,1,none⟩ y):=(h.setCell hN _).setCell hN _
theorem bD (A:Option Addr) (l c:Nat):∀ k n,Value.slice A l c≠.int k n:=fun _ _ e=>by cases e
theorem Un.sh {w:World} {v:Value} {n:Nat} (h:Un w v n):∃ A c,v = .slice A (limbs n).length c∧(limbs n).length≤c:=by obtain ⟨A,c,e,hc,_⟩:=h;exact ⟨A,c,e,hc.1⟩
theorem qP (n:Nat):(n=0∧(limbs n).length=0)∨(n≠0∧0<(limbs n).length):=by
 by_cases h:n=0
 · subst h;exact .inl ⟨rfl,by rw [bF];rfl⟩
 · exact .inr ⟨h,by rw [iG h];simp⟩
set_option maxRecDepth 100000 in
theorem l5 (w:World) (b:Bool) (v:Value) (xs:List Nat) (hu:U w v xs) (n:Nat) (hn:val xs=n) (z:Int) (hz:sg b n=z) :Calls prog 49 #[.bool b,v] w fun e w'=>∃ u,e = .returned u∧Zn w' u z∧Ext w w':=by
 have hM:=Lib.hid (fun W h=>Ce W v xs h n hn);have hE0:=(Ext.refl w).alloc (.cells #[.bool false,.slice none 0 0] 34);have hI0:=Ib.new w false (.slice none 0 0) 34;have hu0:=hu.below hE0;have hza:z.natAbs=n:=by rw [← hz,sW]
 have hzn:decide (z<0)=(b&&decide (0<n)):=by rw [← hz,Wu]
 obtain ⟨L,hL⟩:∃ L,(limbs n).length=L:=⟨_,rfl⟩;have hc:=qP n;rw [hL] at hc;have HL:=Lib.hid hL;have HZ:=Lib.hid (And.intro hza hzn);obtain ⟨A0,c0,rfl,-⟩:=id hu;obtain ⟨l0,hl0⟩:∃ l,xs.length=l:=⟨_,rfl⟩;rw [hl0] at hM hu0 ⊢;clear hl0;clear hz hn hL hza hzn;rcases hc with ⟨h1,rfl⟩ | ⟨h1,h2⟩
 · subst h1;cases b
   all_goals (
    go_enter func49,ntmps49;go_wp2_with (go_at_call 92;refine (hM.out _ hu0).mono ?_;rintro e w2 ⟨u,rfl,hu2,hE2⟩;obtain ⟨A,c,rfl,hc⟩:=Un.sh hu2;rw [HL.out] at hu2 ⊢;clear hc;have hI2:=hI0.ext hE2;obtain ⟨i0,i1,i2,i3,i4⟩:=id hI2)
    (try simp only [Exit.inBlock,Exit.then])
    refine bodyPost_ret (v:=.agg #[.bool false,.slice A 0 c]) (show (results _ _).run _ _=_ from ?_) rfl ⟨_,rfl,Zn.mk' (Un.gB hu2 hI2 (bD _ _ _) _ _) HL.out HZ.out.1 HZ.out.2,(hE0.below hE2).gB (Nat.le_refl _) _ _⟩;simp only [results];go_simp)
 · have h3:(0:Int)<(L:Int):=(by omega);have hb0:Hid (decide (0<n)=true):=decide_eq_true (by omega);cases b
   case' false=>have HS:Hid (decide (z<0)=false):=by show _=_;rw [HZ.out.2];rfl
   case' true=>have HS:Hid (decide (z<0)=true):=by show _=_;rw [HZ.out.2,hb0.out];rfl
   all_goals (
    go_enter func49,ntmps49;go_wp2_with (go_at_call 92;refine (hM.out _ hu0).mono ?_;rintro e w2 ⟨u,rfl,hu2,hE2⟩;obtain ⟨A,c,rfl,hc⟩:=Un.sh hu2;rw [HL.out] at hu2 ⊢;clear hc;have hI2:=hI0.ext hE2;obtain ⟨i0,i1,i2,i3,i4⟩:=id hI2)
    (try simp only [Exit.inBlock,Exit.then])
    refine bodyPost_ret (v:=.agg #[.bool _,.slice A L c]) (show (results _ _).run _ _=_ from ?_) rfl ⟨_,rfl,Zn.mk' (Un.gB hu2 hI2 (bD _ _ _) _ _) HL.out HZ.out.1 HS.out,(hE0.below hE2).gB (Nat.le_refl _) _ _⟩;simp only [results];go_simp)
theorem Zn.sh {w:World} {v:Value} {z:Int} (h:Zn w v z):∃ b A L c,v = .agg #[.bool b,.slice A L c]:=by obtain ⟨A,c,e,_⟩:=h;exact ⟨_,A,_,c,e⟩
theorem acZ (b:Bool) (n:Nat):sg (!b) n = -(sg b n):=by cases b<;>simp [sg]
theorem ZF (b:Bool) (n:Nat) (hb:b=true→n≠0):Int.sign (sg b n)=if n=0 then 0 else if b then -1 else 1:=by
 cases b
 · rw [Wv];by_cases h:n=0
   · subst h;rfl
   · rw [if_neg h,if_neg (by decide)];exact Int.sign_eq_one_of_pos (by omega)
 · rw [QC];have:=hb rfl;rw [if_neg this,if_pos rfl];exact Int.sign_eq_neg_one_of_neg (by omega)
set_option maxRecDepth 100000 in
theorem Qe (w:World) (v:Value) (z:Int) (h:Zn w v z) (k:Int) (hk:Int.sign z=k) :A0k 95 #[v] w (.int .i64 k):=by
 obtain ⟨b,A,L,c,n,rfl,hu,hL,hz,hb,hza,hzn⟩:=h.open;have hE0:=(Ext.refl w).alloc (.cells #[.bool b,.slice A L c] 34);have hk2:=ZF b n hb;rw [← hz,hk] at hk2;have hcs:=qP n;rw [hL] at hcs;clear hz hza hzn hL hk h;rcases hcs with ⟨h1,rfl⟩ | ⟨h1,h2⟩
 · rw [if_pos h1] at hk2;subst hk2;clear hb h1;go_enter func95,ntmps95;go_wp2;go_ret;exact ⟨rfl,hE0⟩
 · rw [if_neg h1] at hk2;have h3:((L:Int)==0)=false:=(by rw [beq_eq_false_iff_ne];omega);have h4:¬ (L=0):=(by omega);cases b
   case' false=>rw [if_neg (by decide)] at hk2
   case' true=>rw [if_pos rfl] at hk2
   all_goals (
    subst hk2;clear hb h1;go_enter func95,ntmps95;go_wp2;go_ret;exact ⟨rfl,hE0⟩)
theorem zg {w X Y:World} {p q:Bool} {mp mq:Value} (h:(w.heap.size+1+1<X.heap.size∧X.cell? ⟨w.heap.size,0,none⟩=some (.bool p)∧X.cell? ⟨w.heap.size,1,none⟩=some mp∧X.cell? ⟨w.heap.size+1,0,none⟩=some (.bool q)∧X.cell? ⟨w.heap.size+1,1,none⟩=some mq)∧Ext w X) (k:Ext X Y):(w.heap.size+1+1<Y.heap.size∧Y.cell? ⟨w.heap.size,0,none⟩=some (.bool p)∧Y.cell? ⟨w.heap.size,1,none⟩=some mp∧Y.cell? ⟨w.heap.size+1,0,none⟩=some (.bool q)∧Y.cell? ⟨w.heap.size+1,1,none⟩=some mq)∧Ext w Y:=by obtain ⟨⟨h0,h1,h2,h3,h4⟩,hx⟩:=h;have hs:=k.size;exact ⟨⟨by omega,(k.cell (p:=⟨w.heap.size,0,none⟩) (by show w.heap.size<_;omega)).trans h1,(k.cell (p:=⟨w.heap.size,1,none⟩) (by show w.heap.size<_;omega)).trans h2,(k.cell (p:=⟨w.heap.size+1,0,none⟩) (by show w.heap.size+1<_;omega)).trans h3,(k.cell (p:=⟨w.heap.size+1,1,none⟩) (by show w.heap.size+1<_;omega)).trans h4⟩,hx.below k⟩
theorem zh {w X:World} {p q:Bool} {mp mq x y:Value} (h:(w.heap.size+1+1<X.heap.size∧X.cell? ⟨w.heap.size,0,none⟩=some (.bool p)∧X.cell? ⟨w.heap.size,1,none⟩=some mp∧X.cell? ⟨w.heap.size+1,0,none⟩=some (.bool q)∧X.cell? ⟨w.heap.size+1,1,none⟩=some mq)∧Ext w X):(w.heap.size+1+1<((X.setCell ⟨w.heap.size+1+1,0,none⟩ x).setCell ⟨w.heap.size+1+1,1,none⟩ y).heap.size∧((X.setCell ⟨w.heap.size+1+1,0,none⟩ x).setCell ⟨w.heap.size+1+1,1,none⟩ y).cell? ⟨w.heap.size,0,none⟩=some (.bool p)∧((X.setCell ⟨w.heap.size+1+1,0,none⟩ x).setCell ⟨w.heap.size+1+1,1,none⟩ y).cell? ⟨w.heap.size,1,none⟩=some mp∧((X.setCell ⟨w.heap.size+1+1,0,none⟩ x).setCell ⟨w.heap.size+1+1,1,none⟩ y).cell? ⟨w.heap.size+1,0,none⟩=some (.bool q)∧((X.setCell ⟨w.heap.size+1+1,0,none⟩ x).setCell ⟨w.heap.size+1+1,1,none⟩ y).cell? ⟨w.heap.size+1,1,none⟩=some mq)∧Ext w ((X.setCell ⟨w.heap.size+1+1,0,none⟩ x).setCell ⟨w.heap.size+1+1,1,none⟩ y):=by
 obtain ⟨⟨h0,h1,h2,h3,h4⟩,hx⟩:=h;have hc:∀ a:Addr,a.block≠w.heap.size+1+1→((X.setCell ⟨w.heap.size+1+1,0,none⟩ x).setCell ⟨w.heap.size+1+1,1,none⟩ y).cell? a=X.cell? a:=fun a ha=>by rw [World.cell?_setCell_other _ _ _ _ (fun e=>ha (by rw [← e])),World.cell?_setCell_other _ _ _ _ (fun e=>ha (by rw [← e]))]
 refine ⟨⟨by simpa using h0,?_,?_,?_,?_⟩,hx.gB (by omega) _ _⟩
 · rw [hc _ (by show w.heap.size≠_;omega)];exact h1
 · rw [hc _ (by show w.heap.size≠_;omega)];exact h2
 · rw [hc _ (by show w.heap.size+1≠_;omega)];exact h3
 · rw [hc _ (by show w.heap.size+1≠_;omega)];exact h4
theorem QD {w X Y:World} {p q:Bool} {mp mq:Value} (h:(w.heap.size+1<X.heap.size∧X.cell? ⟨w.heap.size,0,none⟩=some (.bool p)∧X.cell? ⟨w.heap.size,1,none⟩=some mp∧X.cell? ⟨w.heap.size+1,0,none⟩=some (.bool q)∧X.cell? ⟨w.heap.size+1,1,none⟩=some mq)∧Ext w X) (k:Ext X Y):(w.heap.size+1<Y.heap.size∧Y.cell? ⟨w.heap.size,0,none⟩=some (.bool p)∧Y.cell? ⟨w.heap.size,1,none⟩=some mp∧Y.cell? ⟨w.heap.size+1,0,none⟩=some (.bool q)∧Y.cell? ⟨w.heap.size+1,1,none⟩=some mq)∧Ext w Y:=by obtain ⟨⟨h0,h1,h2,h3,h4⟩,hx⟩:=h;have hs:=k.size;exact ⟨⟨by omega,(k.cell (p:=⟨w.heap.size,0,none⟩) (by show w.heap.size<_;omega)).trans h1,(k.cell (p:=⟨w.heap.size,1,none⟩) (by show w.heap.size<_;omega)).trans h2,(k.cell (p:=⟨w.heap.size+1,0,none⟩) (by show w.heap.size+1<_;omega)).trans h3,(k.cell (p:=⟨w.heap.size+1,1,none⟩) (by show w.heap.size+1<_;omega)).trans h4⟩,hx.below k⟩
theorem QE {w X Y:World} {p q:Bool} {mp mq:Value} (h:(w.heap.size+1+1+1<X.heap.size∧X.cell? ⟨w.heap.size,0,none⟩=some (.bool p)∧X.cell? ⟨w.heap.size,1,none⟩=some mp∧X.cell? ⟨w.heap.size+1,0,none⟩=some (.bool q)∧X.cell? ⟨w.heap.size+1,1,none⟩=some mq)∧Ext w X) (k:Ext X Y):(w.heap.size+1+1+1<Y.heap.size∧Y.cell? ⟨w.heap.size,0,none⟩=some (.bool p)∧Y.cell? ⟨w.heap.size,1,none⟩=some mp∧Y.cell? ⟨w.heap.size+1,0,none⟩=some (.bool q)∧Y.cell? ⟨w.heap.size+1,1,none⟩=some mq)∧Ext w Y:=by obtain ⟨⟨h0,h1,h2,h3,h4⟩,hx⟩:=h;have hs:=k.size;exact ⟨⟨by omega,(k.cell (p:=⟨w.heap.size,0,none⟩) (by show w.heap.size<_;omega)).trans h1,(k.cell (p:=⟨w.heap.size,1,none⟩) (by show w.heap.size<_;omega)).trans h2,(k.cell (p:=⟨w.heap.size+1,0,none⟩) (by show w.heap.size+1<_;omega)).trans h3,(k.cell (p:=⟨w.heap.size+1,1,none⟩) (by show w.heap.size+1<_;omega)).trans h4⟩,hx.below k⟩
theorem ZG {w X:World} {p q:Bool} {mp mq x y:Value} (h:(w.heap.size+1+1+1<X.heap.size∧X.cell? ⟨w.heap.size,0,none⟩=some (.bool p)∧X.cell? ⟨w.heap.size,1,none⟩=some mp∧X.cell? ⟨w.heap.size+1,0,none⟩=some (.bool q)∧X.cell? ⟨w.heap.size+1,1,none⟩=some mq)∧Ext w X):(w.heap.size+1+1+1<((X.setCell ⟨w.heap.size+1+1,0,none⟩ x).setCell ⟨w.heap.size+1+1,1,none⟩ y).heap.size∧((X.setCell ⟨w.heap.size+1+1,0,none⟩ x).setCell ⟨w.heap.size+1+1,1,none⟩ y).cell? ⟨w.heap.size,0,none⟩=some (.bool p)∧((X.setCell ⟨w.heap.size+1+1,0,none⟩ x).setCell ⟨w.heap.size+1+1,1,none⟩ y).cell? ⟨w.heap.size,1,none⟩=some mp∧((X.setCell ⟨w.heap.size+1+1,0,none⟩ x).setCell ⟨w.heap.size+1+1,1,none⟩ y).cell? ⟨w.heap.size+1,0,none⟩=some (.bool q)∧((X.setCell ⟨w.heap.size+1+1,0,none⟩ x).setCell ⟨w.heap.size+1+1,1,none⟩ y).cell? ⟨w.heap.size+1,1,none⟩=some mq)∧Ext w ((X.setCell ⟨w.heap.size+1+1,0,none⟩ x).setCell ⟨w.heap.size+1+1,1,none⟩ y):=by
 obtain ⟨⟨h0,h1,h2,h3,h4⟩,hx⟩:=h;have hc:∀ a:Addr,a.block≠w.heap.size+1+1→((X.setCell ⟨w.heap.size+1+1,0,none⟩ x).setCell ⟨w.heap.size+1+1,1,none⟩ y).cell? a=X.cell? a:=fun a ha=>by rw [World.cell?_setCell_other _ _ _ _ (fun e=>ha (by rw [← e])),World.cell?_setCell_other _ _ _ _ (fun e=>ha (by rw [← e]))]
 refine ⟨⟨by simpa using h0,?_,?_,?_,?_⟩,hx.gB (by omega) _ _⟩
 · rw [hc _ (by show w.heap.size≠_;omega)];exact h1
 · rw [hc _ (by show w.heap.size≠_;omega)];exact h2
 · rw [hc _ (by show w.heap.size+1≠_;omega)];exact h3
 · rw [hc _ (by show w.heap.size+1≠_;omega)];exact h4
theorem ZH {w X:World} {p q:Bool} {mp mq x y:Value} (h:(w.heap.size+1+1+1<X.heap.size∧X.cell? ⟨w.heap.size,0,none⟩=some (.bool p)∧X.cell? ⟨w.heap.size,1,none⟩=some mp∧X.cell? ⟨w.heap.size+1,0,none⟩=some (.bool q)∧X.cell? ⟨w.heap.size+1,1,none⟩=some mq)∧Ext w X):(w.heap.size+1+1+1<((X.setCell ⟨w.heap.size+1+1+1,0,none⟩ x).setCell ⟨w.heap.size+1+1+1,1,none⟩ y).heap.size∧((X.setCell ⟨w.heap.size+1+1+1,0,none⟩ x).setCell ⟨w.heap.size+1+1+1,1,none⟩ y).cell? ⟨w.heap.size,0,none⟩=some (.bool p)∧((X.setCell ⟨w.heap.size+1+1+1,0,none⟩ x).setCell ⟨w.heap.size+1+1+1,1,none⟩ y).cell? ⟨w.heap.size,1,none⟩=some mp∧((X.setCell ⟨w.heap.size+1+1+1,0,none⟩ x).setCell ⟨w.heap.size+1+1+1,1,none⟩ y).cell? ⟨w.heap.size+1,0,none⟩=some (.bool q)∧((X.setCell ⟨w.heap.size+1+1+1,0,none⟩ x).setCell ⟨w.heap.size+1+1+1,1,none⟩ y).cell? ⟨w.heap.size+1,1,none⟩=some mq)∧Ext w ((X.setCell ⟨w.heap.size+1+1+1,0,none⟩ x).setCell ⟨w.heap.size+1+1+1,1,none⟩ y):=by
 obtain ⟨⟨h0,h1,h2,h3,h4⟩,hx⟩:=h;have hc:∀ a:Addr,a.block≠w.heap.size+1+1+1→((X.setCell ⟨w.heap.size+1+1+1,0,none⟩ x).setCell ⟨w.heap.size+1+1+1,1,none⟩ y).cell? a=X.cell? a:=fun a ha=>by rw [World.cell?_setCell_other _ _ _ _ (fun e=>ha (by rw [← e])),World.cell?_setCell_other _ _ _ _ (fun e=>ha (by rw [← e]))]
 refine ⟨⟨by simpa using h0,?_,?_,?_,?_⟩,hx.gB (by omega) _ _⟩
 · rw [hc _ (by show w.heap.size≠_;omega)];exact h1
 · rw [hc _ (by show w.heap.size≠_;omega)];exact h2
 · rw [hc _ (by show w.heap.size+1≠_;omega)];exact h3
 · rw [hc _ (by show w.heap.size+1≠_;omega)];exact h4
set_option maxRecDepth 100000 in
theorem or2 (w:World) (g:Nat) (x y:Int) (h0:w.cell? ⟨g,0,none⟩=some (.int .i64 x)) (h1:w.cell? ⟨g,1,none⟩=some (.int .i64 y)) (r:Int) (hr:(if x=0 then y else x)=r) :A0k 63 #[.slice (some ⟨g,0,none⟩) 2 2] w (.int .i64 r):=by
 go_enter func63,ntmps63;go_wp2;go_loopw [8] (fun t wr=>(t = .int .i64 0∨(t = .int .i64 1∧x=0)∨(t = .int .i64 2∧x=0∧y=0))∧wr=w) (fun t _=>2-(intOf t).toNat);case atStart=>exact ⟨.inl rfl,rfl⟩
 case round =>
  obtain ⟨rfl | ⟨rfl,hx⟩ | ⟨rfl,hx,hy⟩,rfl⟩:=hrel
  · by_cases hx:x=0
    · have q1:(x != 0)=false:=(by rw [bne_eq_false_iff_eq];exact hx);have HX:=Lib.hid hx;clear hr hx;go_wp2;go_roundw;case rel=>exact ⟨.inr (.inl ⟨rfl,HX.out⟩),by trivial⟩
      case measure=>simp [intOf]
    · have q1:(x != 0)=true:=(by rw [bne_iff_ne];exact hx);rw [if_neg hx] at hr;have HR:=Lib.hid hr;clear hr hx;go_wp2;go_ret;exact ⟨by first | (rw [HR.out];done) | (rw [HR.out];rfl),Ext.refl _⟩
  · rw [if_pos hx] at hr;have HR:=Lib.hid hr;have HX:=Lib.hid hx;clear hr hx;by_cases hy:y=0
    · have q1:(y != 0)=false:=(by rw [bne_eq_false_iff_eq];exact hy);have HY:=Lib.hid hy;clear hy;go_wp2;go_roundw;case rel=>exact ⟨.inr (.inr ⟨rfl,HX.out,HY.out⟩),by trivial⟩
      case measure=>simp [intOf]
    · have q1:(y != 0)=true:=(by rw [bne_iff_ne];exact hy);clear hy;go_wp2;go_ret;exact ⟨by first | (rw [HR.out];done) | (rw [HR.out];rfl),Ext.refl _⟩
  · rw [if_pos hx,hy] at hr;have HR:=Lib.hid hr;clear hr hx hy;go_wp2;go_ret;exact ⟨by rw [← HR.out];first | done | rfl,Ext.refl _⟩
theorem Ww (a b:Int):(if dA (Int.sign a) (Int.sign b)=0 then Int.sign a*dA (a.natAbs:Int) (b.natAbs:Int) else dA (Int.sign a) (Int.sign b))=dA a b:=by
 have hs:∀ z:Int,(z<0∧Int.sign z = -1)∨(z=0∧Int.sign z=0)∨(0<z∧Int.sign z=1):=fun z=>by
  rcases Int.lt_trichotomy z 0 with h | h | h
  · exact .inl ⟨h,Int.sign_eq_neg_one_of_neg h⟩
  · subst h;exact .inr (.inl ⟨rfl,rfl⟩)
  · exact .inr (.inr ⟨h,Int.sign_eq_one_of_pos h⟩)
 rcases hs a with ⟨h1,e1⟩ | ⟨h1,e1⟩ | ⟨h1,e1⟩<;>rcases hs b with ⟨h2,e2⟩ | ⟨h2,e2⟩ | ⟨h2,e2⟩<;>rw [e1,e2]<;>unfold dA<;>simp<;>(repeat' split)<;>omega
theorem MH (x y:Int) : -1≤dA x y∧dA x y≤1:=by unfold dA;split<;>(try split)<;>omega
theorem MI (x:Int):Int.sign x = -1∨Int.sign x=0∨Int.sign x=1:=by
 rcases Int.lt_trichotomy x 0 with h | h | h
 · exact .inl (Int.sign_eq_neg_one_of_neg h)
 · subst h;exact .inr (.inl rfl)
 · exact .inr (.inr (Int.sign_eq_one_of_pos h))
set_option maxRecDepth 100000 in
theorem aeA (w:World) (va vb:Value) (a b:Int) (ha:Zn w va a) (hb:Zn w vb b) (k:Int) (hk:dA a b=k) :A0k 121 #[va,vb] w (.int .i64 k):=by
 have hcm:=Ww a b;rw [hk] at hcm;obtain ⟨sa,hsa⟩:∃ s,Int.sign a=s:=⟨_,rfl⟩;obtain ⟨sb,hsb⟩:∃ s,Int.sign b=s:=⟨_,rfl⟩;have hSa:=Lib.hid (fun W h=>Qe W va a h sa hsa);have hSb:=Lib.hid (fun W h=>Qe W vb b h sb hsb);have hb1:=MI a;rw [hsa] at hb1;have ha':=ha;have hb':=hb;obtain ⟨p,A,L,c,n,rfl,hu,hL,hz,-,hza,hzn⟩:=ha.open;obtain ⟨q,B,K,d,m,rfl,hv,hK,hz2,-,lH,pR⟩:=hb.open;rw [hsa,hsb,hza,lH] at hcm;obtain ⟨cm,ZI⟩:∃ x,dA (n:Int) (m:Int)=x:=⟨_,rfl⟩;obtain ⟨cc,hcc⟩:∃ x,dA sa sb=x:=⟨_,rfl⟩;obtain ⟨pr,hpr⟩:∃ x,sa*cm=x:=⟨_,rfl⟩;have hb2:=MH n m;rw [ZI] at hb2;have an2 : -1≤pr∧pr≤1:=by rcases hb1 with h | h | h<;>rw [h] at hpr<;>omega
 have hN:=Lib.hid (fun W (k:Ext w W)=>jy W (.slice A L c) (.slice B K d) n m (Un.below hu k) (Un.below hv k) cm ZI);have hCp:=Lib.hid (fun W=>uW W sa sb);rw [hcc] at hCp;rw [ZI,hcc,hpr] at hcm;have HO:=Lib.hid hcm;have o1:sa*cm=pr:=hpr;have o2:IntKind.i64.wrap pr=pr:=IntWalk.i64_in _ (by omega);have hE0:=(((Ext.refl w).alloc (.cells #[.bool p,.slice A L c] 34)).alloc (.cells #[.bool q,.slice B K d] 34)).drew;have ou:=(Ib.new w p (.slice A L c) 34).ext (((Ext.refl _).alloc (.cells #[.bool q,.slice B K d] 34)).drew);have nL:=(Ib.new2 w (.cells #[.bool p,.slice A L c] 34) q (.slice B K d) 34).ext ((Ext.refl _).drew);have hS0:(w.heap.size+1<((w.alloc (.cells #[.bool p,.slice A L c] 34)).alloc (.cells #[.bool q,.slice B K d] 34)).drew.heap.size∧((w.alloc (.cells #[.bool p,.slice A L c] 34)).alloc (.cells #[.bool q,.slice B K d] 34)).drew.cell? ⟨w.heap.size,0,none⟩=some (.bool p)∧((w.alloc (.cells #[.bool p,.slice A L c] 34)).alloc (.cells #[.bool q,.slice B K d] 34)).drew.cell? ⟨w.heap.size,1,none⟩=some (.slice A L c)∧((w.alloc (.cells #[.bool p,.slice A L c] 34)).alloc (.cells #[.bool q,.slice B K d] 34)).drew.cell? ⟨w.heap.size+1,0,none⟩=some (.bool q)∧((w.alloc (.cells #[.bool p,.slice A L c] 34)).alloc (.cells #[.bool q,.slice B K d] 34)).drew.cell? ⟨w.heap.size+1,1,none⟩=some (.slice B K d))∧Ext w ((w.alloc (.cells #[.bool p,.slice A L c] 34)).alloc (.cells #[.bool q,.slice B K d] 34)).drew:=⟨⟨by simp,ou.2.1,ou.2.2.1,nL.2.1,nL.2.2.1⟩,hE0⟩;clear hb1 hb2 hcm hcc hpr ZI hsa hsb hza hzn lH pR hz hz2 hL hK hk ou nL hE0;go_enter func121,ntmps121;go_wp2
 go_region_held3 (fun X=>(w.heap.size+1<X.heap.size∧X.cell? ⟨w.heap.size,0,none⟩=some (.bool p)∧X.cell? ⟨w.heap.size,1,none⟩=some (.slice A L c)∧X.cell? ⟨w.heap.size+1,0,none⟩=some (.bool q)∧X.cell? ⟨w.heap.size+1,1,none⟩=some (.slice B K d))∧Ext w X)
  (first
   | assumption
   | exact hS0
   | exact QD (by assumption) (by assumption)
   | exact QD (by assumption) ((Ext.refl _).alloc _))
  (first
   | (go_at_call 95;((with_reducible refine (hSa.out _ (ha'.below (by go_split_ands;assumption))).mono ?_);rintro e w2 ⟨rfl,hE2⟩))
   | (go_at_call 95;((with_reducible refine (hSb.out _ (hb'.below (by go_split_ands;assumption))).mono ?_);rintro e w3 ⟨rfl,fV⟩))
   | (go_at_call 64;((with_reducible refine (hCp.out _).mono ?_);rintro e w4 ⟨rfl,rfl⟩))
   | (go_at_call 44;((with_reducible refine (hN.out _ (by go_split_ands;assumption)).mono ?_);rintro e w5 ⟨rfl,nU⟩))
   | (go_at_call 63;(refine (or2 _ _ cc pr (by go_simp) (by go_simp) k HO.out).mono ?_);rintro e w6 ⟨rfl,qC⟩))
 go_wp2;go_ret;exact ⟨rfl,by go_split_ands;assumption⟩
theorem CG (p q:Bool) (n m:Nat) (hm:m≠0) (h:p=false∨n%m=0):sg (!(p==q)) (n/m)=sg p n/sg q m∧((n%m:Nat):Int)=sg p n%sg q m:=by
 have e:=Nat.div_add_mod n m;have hd:(n:Int)/(m:Int)=((n/m:Nat):Int):=(Int.natCast_ediv n m).symm;have hr:(n:Int)%(m:Int)=((n%m:Nat):Int):=(Int.natCast_emod n m).symm;cases p
 · cases q
   · exact ⟨hd.symm,hr.symm⟩
   · constructor
     · show -((n/m:Nat):Int)=(n:Int) / -(m:Int);rw [Int.ediv_neg,hd]
     · show ((n%m:Nat):Int)=(n:Int) % -(m:Int);rw [Int.emod_neg,hr]
 · have h0:n%m=0:=by
    rcases h with h | h
    · cases h
    · exact h
   rw [h0] at e hr ⊢;have e2:(n:Int)=(m:Int)*((n/m:Nat):Int):=(by rw [← Int.natCast_mul];omega);have key : -(n:Int)/(m:Int) = -((n/m:Nat):Int) ∧ -(n:Int)%(m:Int)=0:=(by have:=(Int.ediv_emod_unique (a := -(n:Int)) (b:=(m:Int)) (q := -((n/m:Nat):Int)) (r:=0) (by omega)).2 ⟨by rw [Int.mul_neg,← e2];omega,by omega,by omega⟩;exact this);cases q
   · exact ⟨key.1.symm,key.2.symm⟩
   · constructor
     · show ((n/m:Nat):Int) = -(n:Int) / -(m:Int);rw [Int.ediv_neg,key.1,Int.neg_neg]
     · show ((0:Nat):Int) = -(n:Int) % -(m:Int);rw [Int.emod_neg,key.2];rfl
theorem Gl (q:Bool) (n m:Nat) (hm:m≠0) (h:n%m≠0):sg (!(true==q)) (n/m+1)=sg true n/sg q m∧((m-n%m:Nat):Int)=sg true n%sg q m:=by
 have e:=Nat.div_add_mod n m;have hl:=Nat.mod_lt n (show m>0 by omega);have e2:(n:Int)=(m:Int)*((n/m:Nat):Int)+((n%m:Nat):Int):=by rw [← Int.natCast_mul];omega
 generalize n%m=r at *;generalize n/m=d at *;have hmr:((m-r:Nat):Int)=(m:Int)-(r:Int):=by omega
 have e3:(m:Int) * -((d+1:Nat):Int) = -((m:Int)*(d:Int))-(m:Int):=by grind
 have key : -(n:Int)/(m:Int) = -((d+1:Nat):Int) ∧ -(n:Int)%(m:Int)=((m-r:Nat):Int):=by have:=(Int.ediv_emod_unique (a := -(n:Int)) (b:=(m:Int)) (q := -((d+1:Nat):Int)) (r:=((m-r:Nat):Int)) (by omega)).2 ⟨by rw [e3,hmr,e2];omega,by omega,by omega⟩;exact this
 cases q
 · exact ⟨key.1.symm,key.2.symm⟩
 · constructor
   · show ((d+1:Nat):Int) = -(n:Int) / -(m:Int);simp_all
   · show ((m-r:Nat):Int) = -(n:Int) % -(m:Int);simp_all
theorem Ib.other {w:World} {N M:Nat} {b:Bool} {m:Value} (h:Ib w N b m) (hne:N≠M) (x y:Value):Ib ((w.setCell ⟨M,0,none⟩ x).setCell ⟨M,1,none⟩ y) N b m:=by
 obtain ⟨h0,h1,h2,h3,h4⟩:=h;have hc:∀ a:Addr,a.block≠M→((w.setCell ⟨M,0,none⟩ x).setCell ⟨M,1,none⟩ y).cell? a=w.cell? a:=fun a ha=>by rw [World.cell?_setCell_other _ _ _ _ (fun e=>ha (by rw [← e])),World.cell?_setCell_other _ _ _ _ (fun e=>ha (by rw [← e]))]
 refine ⟨by simpa using h0,by rw [hc _ hne];exact h1,by rw [hc _ hne];exact h2,by go_simp,by go_simp⟩
def ZdD (w w':World) (e:Ending) (q r:Int):Prop:=(∃ x y,e = .returned (.tuple #[x,y,.int .i64 0])∧Zn w' x q∧Zn w' y r)∧Ext w w'
set_option maxRecDepth 100000 in
theorem Ux (w:World) (va vb:Value) (a b:Int) (ha:Zn w va a) (hb:Zn w vb b) (hl:(limbs a.natAbs).length≤1000) (hl2:(limbs b.natAbs).length≤1000) (h0:b≠0) (x y:Int) (hx:a/b=x) (hy:a%b=y) :Calls prog 120 #[va,vb] w fun e w'=>ZdD w w' e x y:=by
 unfold ZdD;obtain ⟨p,A,L,c,n,rfl,hu,hL,hz,-,hza,hzn⟩:=ha.open;obtain ⟨q,B,K,d,m,rfl,hv,hK,hz2,-,lH,pR⟩:=hb.open;rw [hza] at hl;rw [lH] at hl2;have hm0:m≠0:=by omega
 obtain ⟨Q,hQ⟩:∃ Q,n/m=Q:=⟨_,rfl⟩;obtain ⟨R,hR⟩:∃ R,n%m=R:=⟨_,rfl⟩;have hQl:(limbs Q).length≤1000:=Nat.le_trans (iK (by rw [← hQ];exact Nat.div_le_self _ _)) hl;have hRm:R<m:=by rw [← hR];exact Nat.mod_lt _ (by omega)
 have hRl:(limbs R).length≤1000:=Nat.le_trans (iK (by omega)) hl2;have hE0:=((((Ext.refl w).alloc (.cells #[.bool p,.slice A L c] 34)).alloc (.cells #[.bool q,.slice B K d] 34)).alloc (.cells #[.bool false,.slice none 0 0] 34)).alloc (.cells #[.bool false,.slice none 0 0] 34);have hI0:=(Ib.wP w (.cells #[.bool p,.slice A L c] 34) (.cells #[.bool q,.slice B K d] 34) false (.slice none 0 0) 34).ext ((Ext.refl _).alloc (.cells #[.bool false,.slice none 0 0] 34));have hJ0:=Ib.wP (w.alloc (.cells #[.bool p,.slice A L c] 34)) (.cells #[.bool q,.slice B K d] 34) (.cells #[.bool false,.slice none 0 0] 34) false (.slice none 0 0) 34;have hN:(w.alloc (.cells #[.bool p,.slice A L c] 34)).heap.size=w.heap.size+1:=by simp
 rw [hN] at hJ0;have ou:=(Ib.new w p (.slice A L c) 34).ext ((((Ext.refl _).alloc (.cells #[.bool q,.slice B K d] 34)).alloc (.cells #[.bool false,.slice none 0 0] 34)).alloc (.cells #[.bool false,.slice none 0 0] 34));have nL:=(Ib.new2 w (.cells #[.bool p,.slice A L c] 34) q (.slice B K d) 34).ext (((Ext.refl _).alloc (.cells #[.bool false,.slice none 0 0] 34)).alloc (.cells #[.bool false,.slice none 0 0] 34));have hD:=Lib.hid (wE _ (.slice A L c) (.slice B K d) n m Q R (hu.below hE0) (hv.below hE0) hl hl2 hm0 hQ hR);have hv0:=hv.below hE0;have hcs:=qP R;obtain ⟨LR,ZJ⟩:∃ L,(limbs R).length=L:=⟨_,rfl⟩;have HLR:=Lib.hid ZJ;rw [ZJ] at hcs;by_cases hsp:p=true∧R≠0
 · obtain ⟨rfl,hR0⟩:=hsp;obtain ⟨k1,k2⟩:=Gl q n m hm0 (by rw [hR];exact hR0);rw [hQ,← hz,← hz2,hx] at k1;rw [hR,← hz,← hz2,hy] at k2;have hAd:=Lib.hid (fun W v u h g=>LG W v u Q 1 h g (by omega) Ll (Q+1) rfl);have hSb:=Lib.hid (fun W v h g=>Qd W (.slice B K d) v m R h g (by omega) true (decide_eq_true (by omega)) (m-R) rfl);rw [show (!(true==q)) = !q by cases q<;>rfl] at k1;have hM1:=Lib.hid (fun W v (h:Un W v (Q+1))=>l5 W (!q) v (limbs (Q+1)) h (Q+1) (aM _) x k1);have hM2:=Lib.hid (fun W v (h:Un W v (m-R))=>l5 W false v (limbs (m-R)) h (m-R) (aM _) y k2);have hlr:0<LR:=(by omega);have aiT:(0:Int)<(LR:Int):=(by omega);clear hl hl2 hza hzn lH pR hz hz2 hL hK ha hb hu hv hN hx hy hQ hR h0 hm0 hcs ZJ k1 k2 hRm hR0;unfold Dv at hD;go_enter func120,ntmps120
   go_upto_region 7 with (first
    | (go_at_call 143;refine hD.out.mono ?_;rintro e w2 ⟨⟨vq,vr,rfl,Au,Ir⟩,hE2⟩;obtain ⟨A2,c2,rfl,-⟩:=Un.sh Au;obtain ⟨A3,c3,rfl,-⟩:=Un.sh Ir;rw [HLR.out] at Ir ⊢;obtain ⟨p0,p1,p2,p3,p4⟩:=ou.ext hE2)
    | (go_at_call 73;refine (hAd.out _ _ _ (Un.below Au ((Ext.refl _).alloc _)) (yg _)).mono ?_;rintro e w4 ⟨u4,rfl,LY,jI⟩;have CJ:=((Ext.refl w2).alloc (.cells #[.int .u32 1] 57)).below jI;obtain ⟨A4,c4,rfl,-⟩:=Un.sh LY;obtain ⟨q0,q1,q2,q3,q4⟩:=(nL.ext hE2).ext CJ;have aiU:=Un.below Ir CJ;have hv4:=(Un.below hv0 hE2).below CJ)
    | (go_at_call 140;refine (hSb.out _ _ hv4 aiU).mono ?_;rintro e w5 ⟨u5,rfl,hu5,nU⟩;obtain ⟨A5,c5,rfl,-⟩:=Un.sh hu5;obtain ⟨p0,p1,p2,p3,p4⟩:=((ou.ext hE2).ext CJ).ext nU;obtain ⟨q0,q1,q2,q3,q4⟩:=((nL.ext hE2).ext CJ).ext nU;have aiV:=Un.below LY nU))
   go_wp2_with (fail);refine (hM1.out _ _ aiV).mono ?_;rintro e w6 ⟨u6,rfl,Wx,qC⟩;obtain ⟨b6,A6,L6,c6,rfl⟩:=Wx.sh;go_wp2_with (fail);refine (hM2.out _ _ (Un.below hu5 qC)).mono ?_;rintro e w7 ⟨u7,rfl,Sw,rZ⟩;obtain ⟨b7,A7,L7,c7,rfl⟩:=Sw.sh;have OI:=((((hI0.ext hE2).ext CJ).ext nU).ext qC).ext rZ;have OJ:=((((hJ0.ext hE2).ext CJ).ext nU).ext qC).ext rZ;obtain ⟨i0,i1,i2,i3,i4⟩:=id OI;obtain ⟨j0,j1,j2,j3,j4⟩:=id OJ;have Wy:=Lib.hid OI;have Wz:=Lib.hid OJ;have hZ6:=Wx.below rZ;have Yd:=((((hE0.below hE2).below CJ).below nU).below qC).below rZ;clear OI OJ;go_wp2
   (try simp only [Exit.inBlock,Exit.then])
   refine bodyPost_ret (v:=.tuple #[.agg #[.bool b6,.slice A6 L6 c6],.agg #[.bool b7,.slice A7 L7 c7],.int .i64 0]) (show (results _ _).run _ _=_ from ?_) rfl ⟨⟨_,_,rfl,(hZ6.gB Wy.out (bD _ _ _) _ _).gB (Wz.out.other (by omega) _ _) (bD _ _ _) _ _,(Sw.gB Wy.out (bD _ _ _) _ _).gB (Wz.out.other (by omega) _ _) (bD _ _ _) _ _⟩,(Yd.gB (by omega) _ _).gB (by omega) _ _⟩;simp only [results];go_simp
 · have hpr:p=false∨R=0:=by
    cases p
    · exact .inl rfl
    · right;rcases Nat.eq_zero_or_pos R with h | h
      · exact h
      · exact absurd ⟨rfl,by omega⟩ hsp
   obtain ⟨k1,k2⟩:=CG p q n m hm0 (by rw [hR];exact hpr);rw [hQ,← hz,← hz2,hx] at k1;rw [hR,← hz,← hz2,hy] at k2;have hM1:=Lib.hid (fun W v (h:Un W v Q)=>l5 W (!(p==q)) v (limbs Q) h Q (aM _) x k1);have hM2:=Lib.hid (fun W v (h:Un W v R)=>l5 W false v (limbs R) h R (aM _) y k2)
   have hcase:p=false∨(p=true∧LR=0):=by
    rcases hpr with h | h
    · exact .inl h
    · cases p
      · exact .inl rfl
      · exact .inr ⟨rfl,by omega⟩
   clear hl hl2 hza hzn lH pR hz hz2 hL hK ha hb hu hv hN hx hy hQ hR h0 hm0 hcs ZJ k1 k2 hRm hsp hpr;unfold Dv at hD;rcases hcase with rfl | ⟨rfl,rfl⟩
   case' inl=>rw [show (!(false==q))=q by cases q<;>rfl] at hM1
   case' inr=>rw [show (!(true==q)) = !q by cases q<;>rfl] at hM1
   all_goals (
    go_enter func120,ntmps120
    go_upto_region 7 with (first
     | (go_at_call 143;refine hD.out.mono ?_;rintro e w5 ⟨⟨vq,vr,rfl,Au,Ir⟩,nU⟩;obtain ⟨A2,c2,rfl,-⟩:=Un.sh Au;obtain ⟨A3,c3,rfl,-⟩:=Un.sh Ir;rw [HLR.out] at Ir ⊢;obtain ⟨p0,p1,p2,p3,p4⟩:=ou.ext nU;obtain ⟨q0,q1,q2,q3,q4⟩:=nL.ext nU))
    go_wp2_with (fail);refine (hM1.out _ _ Au).mono ?_;rintro e w6 ⟨u6,rfl,Wx,qC⟩;obtain ⟨b6,A6,L6,c6,rfl⟩:=Wx.sh;go_wp2_with (fail);refine (hM2.out _ _ (Un.below Ir qC)).mono ?_;rintro e w7 ⟨u7,rfl,Sw,rZ⟩;obtain ⟨b7,A7,L7,c7,rfl⟩:=Sw.sh;have OI:=((hI0.ext nU).ext qC).ext rZ;have OJ:=((hJ0.ext nU).ext qC).ext rZ;obtain ⟨i0,i1,i2,i3,i4⟩:=id OI;obtain ⟨j0,j1,j2,j3,j4⟩:=id OJ;have Wy:=Lib.hid OI;have Wz:=Lib.hid OJ;have hZ6:=Wx.below rZ;have Yd:=((hE0.below nU).below qC).below rZ;clear OI OJ;go_wp2
    (try simp only [Exit.inBlock,Exit.then])
    refine bodyPost_ret (v:=.tuple #[.agg #[.bool b6,.slice A6 L6 c6],.agg #[.bool b7,.slice A7 L7 c7],.int .i64 0]) (show (results _ _).run _ _=_ from ?_) rfl ⟨⟨_,_,rfl,(hZ6.gB Wy.out (bD _ _ _) _ _).gB (Wz.out.other (by omega) _ _) (bD _ _ _) _ _,(Sw.gB Wy.out (bD _ _ _) _ _).gB (Wz.out.other (by omega) _ _) (bD _ _ _) _ _⟩,(Yd.gB (by omega) _ _).gB (by omega) _ _⟩;simp only [results];go_simp)
theorem fo:prog.follows .mixedOrders=true:=by kernel_rfl
def Sz (z:Int) (K:Nat):Prop:=(limbs z.natAbs).length≤K
theorem Sz.le {z:Int} {K M:Nat} (h:Sz z K) (hk:K≤M):Sz z M:=Nat.le_trans h hk
theorem Sz.zero {K:Nat}:Sz 0 K:=by show (limbs 0).length≤K;rw [bF];exact Nat.zero_le _
theorem Sz.neg {z:Int} {K:Nat} (h:Sz z K):Sz (-z) K:=by show (limbs (-z).natAbs).length≤K;rw [Int.natAbs_neg];exact h
theorem I7 {z:Int} {K:Nat} (h:Sz z K):z.natAbs<4294967296^K:=dS h
theorem Sz.add {a b:Int} {K J M:Nat} (ha:Sz a K) (hb:Sz b J) (hk:K+1≤M) (hj:J+1≤M):Sz (a+b) M:=by obtain ⟨m,rfl⟩:∃ m,M=m+1:=⟨M-1,by omega⟩;have h1:=I7 (ha.le (show K≤m by omega));have h2:=I7 (hb.le (show J≤m by omega));refine lQ (show _<4294967296^(m+1) from ?_);rw [Nat.pow_succ];have h3:(a+b).natAbs≤a.natAbs+b.natAbs:=Int.natAbs_add_le a b;omega
theorem Sz.mul {a b:Int} {K J M:Nat} (ha:Sz a K) (hb:Sz b J) (hk:K+J≤M):Sz (a*b) M:=by refine lQ (show _<4294967296^M from ?_);rw [Int.natAbs_mul];have h1:=I7 ha;have h2:=I7 hb;refine Nat.lt_of_lt_of_le (Nat.mul_lt_mul'' h1 h2) ?_;rw [← Nat.pow_add];exact Nat.pow_le_pow_right (by decide) hk
theorem SF (d:Nat) (v:Value) (l:List (Nat × Value)):fO ((d,v)::l) (.tmp d)=some v:=by show Pl.look ((d,v)::l) d=_;unfold Pl.look;rw [Nat.beq_refl]
section
open Go Go.RowKit
abbrev A0j (f:FuncId) (a:Array Value) (w:World) (a0:Int):=Calls Tryz.prog f a w fun e w'=>∃ u,e = .returned u∧Zn w' u a0∧Pl.aS w w'
abbrev A0m (f:FuncId) (a:Array Value) (w:World) (a0:Int):=Calls Tryz.prog f a w fun e w'=>∃ u,e = .returned u∧Zn w' u a0∧Ext w w'
