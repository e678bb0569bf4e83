/- Whole numbers: a sign and a size. -/
import Derived.Test.YtfhcmggpojhegaaGreatDoorBak
import Derived.Test.YtfhcmggpojhegaaGreatDoorBar
import Derived.Test.YtfhcmggpojhegaaGreatDoorBaa
import Derived.Test.YtfhcmggpojhegaaGreatDoorBah
import Derived.Deep.Cut
import Derived.Deep.RegionHeld3

namespace Go.Proofs.YtfhcmggpojhegaaGreatDoor
open Go.RowKit
set_option linter.unusedVariables false
set_option maxHeartbeats 400000
def Zn (w:World) (v:Value) (z:Int):Prop:=∃ A c,v = .agg #[.bool (decide (z<0)),.slice A (limbs z.natAbs).length c]∧Un w (.slice A (limbs z.natAbs).length c) z.natAbs
theorem Zn.below {w w':World} {v:Value} {z:Int} (h:Zn w v z) (k:Ext w w'):Zn w' v z:=by
 obtain ⟨A,c,e,hu⟩:=h
 exact ⟨A,c,e,Un.below hu k⟩
def sg (b:Bool) (n:Nat):Int:=if b then -(n:Int) else (n:Int)
theorem Qh (b:Bool) (n:Nat):(sg b n).natAbs=n:=by unfold sg;split<;>omega
theorem Yi (b:Bool) (n:Nat):decide (sg b n<0)=(b&&decide (0<n)):=by
 unfold sg
 cases b
 · simp
 · simp
theorem um (n:Nat):sg true n = -(n:Int):=rfl
theorem alX (z:Int):sg (decide (z<0)) z.natAbs=z:=by
 unfold sg
 by_cases h:z<0
 · rw [decide_eq_true h,if_pos rfl];omega
 · rw [decide_eq_false h,if_neg (by decide)];omega
theorem Zn.mk' {w:World} {A:Option Addr} {L c n:Nat} {z:Int} {b:Bool} (hu:Un w (.slice A L c) n) (hL:(limbs n).length=L) (hz:z.natAbs=n) (hs:decide (z<0)=b):Zn w (.agg #[.bool b,.slice A L c]) z:=by
 subst hs hz hL
 exact ⟨A,c,rfl,hu⟩
theorem Zn.zero (w:World) (A:Option Addr) (c:Nat):Zn w (.agg #[.bool false,.slice A 0 c]) 0:=by
 refine ⟨A,c,?_,?_⟩
 · show _=Value.agg #[.bool false,.slice A (limbs 0).length c]
   rw [bf];rfl
 · show Un w (.slice A (limbs 0).length c) 0
   rw [Un,bf];exact U.Eo _ _ _
theorem Zn.open {w:World} {v:Value} {z:Int} (h:Zn w v z):∃ (b:Bool) (A:Option Addr) (L c n:Nat),v = .agg #[.bool b,.slice A L c]∧Un w (.slice A L c) n∧(limbs n).length=L∧z=sg b n∧(b=true→n≠0)∧z.natAbs=n∧decide (z<0)=b:=by
 obtain ⟨A,c,e,hu⟩:=h
 refine ⟨decide (z<0),A,_,c,z.natAbs,e,hu,rfl,(alX z).symm,fun hb=>?_,rfl,rfl⟩
 have:=of_decide_eq_true hb
 omega
def Ri (w:World) (v:Value) (b:Bool) (xs:List Nat):Prop:=∃ A c,v = .agg #[.bool b,.slice A xs.length c]∧U w (.slice A xs.length c) xs
theorem Ri.below {w w':World} {v:Value} {b:Bool} {xs:List Nat} (h:Ri w v b xs) (k:Ext w w'):Ri w' v b xs:=by
 obtain ⟨A,c,e,hu⟩:=h
 exact ⟨A,c,e,U.below hu k⟩
theorem U.alY {w:World} {v:Value} {xs:List Nat} (h:U w v xs) {p:Addr} {old:Value} (hp:w.cell? p=some old) (ho:∀ k n,old≠.int k n) (x:Value):U (w.setCell p x) v xs:=by
 obtain ⟨A,c,rfl,hc,hx,hr⟩:=h
 refine ⟨A,c,rfl,hc,hx,fun h0=>?_⟩
 obtain ⟨ad,hA,hb,hcell⟩:=hr h0
 refine ⟨ad,hA,by simpa using hb,fun j hj=>?_⟩
 have h1:=hcell j hj
 rw [World.cell?_setCell_other]
 · exact h1
 · intro e
   rw [e,h1] at hp
   exact ho _ _ (Option.some.inj hp).symm
def Ib (w:World) (N:Nat) (b:Bool) (m:Value):Prop:=N<w.heap.size∧w.cell? ⟨N,0,none⟩=some (.bool b)∧w.cell? ⟨N,1,none⟩=some m∧w.frozen? ⟨N,0,none⟩=false∧w.frozen? ⟨N,1,none⟩=false
theorem Ib.ext {w w':World} {N:Nat} {b:Bool} {m:Value} (h:Ib w N b m) (k:Ext w w'):Ib w' N b m:=by
 obtain ⟨h0,h1,h2,h3,h4⟩:=h
 exact ⟨Nat.lt_of_lt_of_le h0 k.size,(k.cell (p:=⟨N,0,none⟩) h0).trans h1,(k.cell (p:=⟨N,1,none⟩) h0).trans h2,(k.frozen (p:=⟨N,0,none⟩) h0).trans h3,(k.frozen (p:=⟨N,1,none⟩) h0).trans h4⟩
theorem Ib.new (w:World) (b:Bool) (m:Value) (T:TypeId):Ib (w.alloc (.cells #[.bool b,m] T)) w.heap.size b m:=by
 refine ⟨by simp,?_,?_,?_,?_⟩<;>go_simp
theorem Un.dA {w:World} {v:Value} {n N:Nat} {b:Bool} {m:Value} (h:Un w v n) (hI:Ib w N b m) (hm:∀ k x,m≠.int k x) (x y:Value):Un ((w.setCell ⟨N,0,none⟩ x).setCell ⟨N,1,none⟩ y) v n:=by
 obtain ⟨h0,h1,h2,h3,h4⟩:=hI
 refine U.alY (U.alY h h1 (fun _ _ e=>by cases e) x) (old:=m) ?_ hm y
 rw [World.cell?_setCell_other _ _ _ _ (fun e=>by cases e)]
 exact h2
theorem Zn.dA {w:World} {v:Value} {z:Int} {N:Nat} {b:Bool} {m:Value} (h:Zn w v z) (hI:Ib w N b m) (hm:∀ k x,m≠.int k x) (x y:Value):Zn ((w.setCell ⟨N,0,none⟩ x).setCell ⟨N,1,none⟩ y) v z:=by
 obtain ⟨A,c,e,hu⟩:=h
 exact ⟨A,c,e,Un.dA hu hI hm x y⟩
theorem Ext.dA {w0 w:World} {N:Nat} (h:Ext w0 w) (hN:w0.heap.size≤N) (x y:Value):Ext w0 ((w.setCell ⟨N,0,none⟩ x).setCell ⟨N,1,none⟩ y):=(h.setCell hN _).setCell hN _
theorem aP (A:Option Addr) (l c:Nat):∀ k n,Value.slice A l c≠.int k n:=fun _ _ e=>by cases e
theorem Un.sh {w:World} {v:Value} {n:Nat} (h:Un w v n):∃ A c,v = .slice A (limbs n).length c∧(limbs n).length≤c:=by
 obtain ⟨A,c,e,hc,_⟩:=h
 exact ⟨A,c,e,hc.1⟩
theorem nR (n:Nat):(n=0∧(limbs n).length=0)∨(n≠0∧0<(limbs n).length):=by
 by_cases h:n=0
 · subst h;exact .inl ⟨rfl,by rw [bf];rfl⟩
 · exact .inr ⟨h,by rw [fH h];simp⟩
set_option maxRecDepth 100000 in
theorem iq (w:World) (b:Bool) (v:Value) (xs:List Nat) (hu:U w v xs) (n:Nat) (hn:val xs=n) (z:Int) (hz:sg b n=z) :
  Calls Tryz.prog 35 #[.bool b,v] w fun e w'=>∃ u,e = .returned u∧Zn w' u z∧Ext w w':=by
 have hM:=Lib.hid (fun W h=>Ca W v xs h n hn)
 have hE0:=(Ext.refl w).alloc (.cells #[.bool false,.slice none 0 0] 48)
 have hI0:=Ib.new w false (.slice none 0 0) 48
 have hu0:=hu.below hE0
 have hza:z.natAbs=n:=by rw [← hz,Qh]
 have hzn:decide (z<0)=(b&&decide (0<n)):=by rw [← hz,Yi]
 obtain ⟨L,hL⟩:∃ L,(limbs n).length=L:=⟨_,rfl⟩
 have hc:=nR n
 rw [hL] at hc
 have HL:=Lib.hid hL
 have HZ:=Lib.hid (And.intro hza hzn)
 obtain ⟨A0,c0,rfl,-⟩:=id hu
 obtain ⟨l0,hl0⟩:∃ l,xs.length=l:=⟨_,rfl⟩
 rw [hl0] at hM hu0 ⊢
 clear hl0
 clear hz hn hL hza hzn
 rcases hc with ⟨h1,rfl⟩ | ⟨h1,h2⟩
 · subst h1
   cases b
   all_goals (
    go_enter Tryz.func35,Tryz.ntmps35
    go_wp2_with (go_at_call 57;refine (hM.out _ hu0).mono ?_;rintro e w2 ⟨u,rfl,hu2,hE2⟩;obtain ⟨A,c,rfl,hc⟩:=Un.sh hu2;rw [HL.out] at hu2 ⊢;clear hc;have hI2:=hI0.ext hE2;obtain ⟨i0,i1,i2,i3,i4⟩:=id hI2)
    (try simp only [Exit.inBlock,Exit.then])
    refine bodyPost_ret (v:=.agg #[.bool false,.slice A 0 c]) (show (results _ _).run _ _=_ from ?_) rfl ⟨_,rfl,Zn.mk' (Un.dA hu2 hI2 (aP _ _ _) _ _) HL.out HZ.out.1 HZ.out.2,(hE0.below hE2).dA (Nat.le_refl _) _ _⟩
    simp only [results]
    go_simp)
 · have h3:(0:Int)<(L:Int):=by omega
   have hb0:Hid (decide (0<n)=true):=decide_eq_true (by omega)
   cases b
   case' false=>have HS:Hid (decide (z<0)=false):=by show _=_;rw [HZ.out.2];rfl
   case' true=>have HS:Hid (decide (z<0)=true):=by show _=_;rw [HZ.out.2,hb0.out];rfl
   all_goals (
    go_enter Tryz.func35,Tryz.ntmps35
    go_wp2_with (go_at_call 57;refine (hM.out _ hu0).mono ?_;rintro e w2 ⟨u,rfl,hu2,hE2⟩;obtain ⟨A,c,rfl,hc⟩:=Un.sh hu2;rw [HL.out] at hu2 ⊢;clear hc;have hI2:=hI0.ext hE2;obtain ⟨i0,i1,i2,i3,i4⟩:=id hI2)
    (try simp only [Exit.inBlock,Exit.then])
    refine bodyPost_ret (v:=.agg #[.bool _,.slice A L c]) (show (results _ _).run _ _=_ from ?_) rfl ⟨_,rfl,Zn.mk' (Un.dA hu2 hI2 (aP _ _ _) _ _) HL.out HZ.out.1 HS.out,(hE0.below hE2).dA (Nat.le_refl _) _ _⟩
    simp only [results]
    go_simp)
end Go.Proofs.YtfhcmggpojhegaaGreatDoor
/- Whole numbers: signs, and what is turned about. -/
namespace Go.Proofs.YtfhcmggpojhegaaGreatDoor
open Go.RowKit
set_option linter.unusedVariables false
set_option maxHeartbeats 400000
theorem Zn.sh {w:World} {v:Value} {z:Int} (h:Zn w v z):∃ b A L c,v = .agg #[.bool b,.slice A L c]:=by
 obtain ⟨A,c,e,_⟩:=h
 exact ⟨_,A,_,c,e⟩
set_option maxRecDepth 100000 in
theorem zof (w:World) (z:Int) (h1 : -9223372036854775808≤z) (h2:z≤9223372036854775807) :
  Calls Tryz.prog 89 #[.int .i64 z] w fun e w'=>∃ u,e = .returned u∧Zn w' u z∧Ext w w':=by
 have hE0:=(Ext.refl w).alloc (.cells #[.bool false,.slice none 0 0] 48)
 have hI0:=Ib.new w false (.slice none 0 0) 48
 by_cases h0:z<0
 · obtain ⟨m,hm⟩:∃ m:Nat,-z=(m:Int):=⟨(-z).toNat,by omega⟩
   obtain ⟨k,hk⟩:∃ k:Nat,z+18446744073709551616=(k:Int):=⟨(z+18446744073709551616).toNat,by omega⟩
   have o1:z%18446744073709551616=(k:Int):=by omega
   have o2:IntKind.u64.wrap z=(k:Int):=by rw [IntKind.wrap_u64];omega
   have o3:(-(k:Int))%18446744073709551616=(m:Int):=by omega
   have o4:IntKind.u64.wrap (-(k:Int))=(m:Int):=by rw [IntKind.wrap_u64];omega
   have hM:=Lib.hid (fun W v h=>iq W true v (limbs m) h m (aO m) z (by rw [um];omega))
   have hOf:=Lib.hid (fun W=>of_B W (m:Int) (by omega) (by omega) m (by simp))
   clear hm hk
   go_enter Tryz.func89,Tryz.ntmps89
   go_wp2_with (first
    | (go_at_call 62;refine (hOf.out _).mono ?_;rintro e w2 ⟨u,rfl,hu2,hE2⟩;obtain ⟨A2,c2,rfl,hc2⟩:=Un.sh hu2)
    | (go_at_call 35;refine (hM.out _ _ hu2).mono ?_;rintro e w3 ⟨u,rfl,hz3,bJ⟩;obtain ⟨b3,A3,L3,c3,rfl⟩:=hz3.sh;have kH:=(hI0.ext hE2).ext bJ;obtain ⟨i0,i1,i2,i3,i4⟩:=id kH))
   (try simp only [Exit.inBlock,Exit.then])
   refine bodyPost_ret (v:=.agg #[.bool b3,.slice A3 L3 c3]) (show (results _ _).run _ _=_ from ?_) rfl ⟨_,rfl,hz3.dA kH (aP _ _ _) _ _,((hE0.below hE2).below bJ).dA (by simp) _ _⟩
   simp only [results]
   go_simp
 · obtain ⟨m,rfl⟩:=Int.eq_ofNat_of_zero_le (show 0≤z by omega)
   have o1:(m:Int)%18446744073709551616=(m:Int):=by omega
   have o2:IntKind.u64.wrap (m:Int)=(m:Int):=by rw [IntKind.wrap_u64];omega
   have hM:=Lib.hid (fun W v h=>iq W false v (limbs m) h m (aO m) (m:Int) rfl)
   have hOf:=Lib.hid (fun W=>of_B W (m:Int) (by omega) (by omega) m (by simp))
   go_enter Tryz.func89,Tryz.ntmps89
   go_wp2_with (first
    | (go_at_call 62;refine (hOf.out _).mono ?_;rintro e w2 ⟨u,rfl,hu2,hE2⟩;obtain ⟨A2,c2,rfl,hc2⟩:=Un.sh hu2)
    | (go_at_call 35;refine (hM.out _ _ hu2).mono ?_;rintro e w3 ⟨u,rfl,hz3,bJ⟩;obtain ⟨b3,A3,L3,c3,rfl⟩:=hz3.sh;have kH:=(hI0.ext hE2).ext bJ;obtain ⟨i0,i1,i2,i3,i4⟩:=id kH))
   (try simp only [Exit.inBlock,Exit.then])
   refine bodyPost_ret (v:=.agg #[.bool b3,.slice A3 L3 c3]) (show (results _ _).run _ _=_ from ?_) rfl ⟨_,rfl,hz3.dA kH (aP _ _ _) _ _,((hE0.below hE2).below bJ).dA (by simp) _ _⟩
   simp only [results]
   go_simp
end Go.Proofs.YtfhcmggpojhegaaGreatDoor
/- Whole numbers: quotients and rests. -/
namespace Go.Proofs.YtfhcmggpojhegaaGreatDoor
open Go.RowKit
set_option linter.unusedVariables false
set_option maxHeartbeats 400000
theorem Ib.other {w:World} {N M:Nat} {b:Bool} {m:Value} (h:Ib w N b m) (hne:N≠M) (x y:Value):Ib ((w.setCell ⟨M,0,none⟩ x).setCell ⟨M,1,none⟩ y) N b m:=by
 obtain ⟨h0,h1,h2,h3,h4⟩:=h
 have hc:∀ a:Addr,a.block≠M→((w.setCell ⟨M,0,none⟩ x).setCell ⟨M,1,none⟩ y).cell? a=w.cell? a:=fun a ha=>by
  rw [World.cell?_setCell_other _ _ _ _ (fun e=>ha (by rw [← e])),World.cell?_setCell_other _ _ _ _ (fun e=>ha (by rw [← e]))]
 refine ⟨by simpa using h0,by rw [hc _ hne];exact h1,by rw [hc _ hne];exact h2,by go_simp,by go_simp⟩
end Go.Proofs.YtfhcmggpojhegaaGreatDoor
/- Whole numbers in the walk by plans: sizes, boxes, loads. -/
namespace Go.Proofs.YtfhcmggpojhegaaGreatDoor
open Go.RowKit
set_option linter.unusedVariables false
set_option maxHeartbeats 400000
theorem fo:Tryz.prog.follows .mixedOrders=true:=by kernel_rfl
def Sz (z:Int) (K:Nat):Prop:=(limbs z.natAbs).length≤K
theorem Sz.le {z:Int} {K M:Nat} (h:Sz z K) (hk:K≤M):Sz z M:=Nat.le_trans h hk
theorem Sz.lit {z:Int} {K:Nat} (h:z.natAbs<4294967296) (hk:1≤K):Sz z K:=Nat.le_trans (jO (k:=1) (by rw [Nat.pow_one];exact h)) hk
theorem Sz.zero {K:Nat}:Sz 0 K:=by show (limbs 0).length≤K;rw [bf];exact Nat.zero_le _
theorem Sz.neg {z:Int} {K:Nat} (h:Sz z K):Sz (-z) K:=by show (limbs (-z).natAbs).length≤K;rw [Int.natAbs_neg];exact h
theorem JI {z:Int} {K:Nat} (h:Sz z K):z.natAbs<4294967296^K:=dX h
theorem Sz.add {a b:Int} {K J M:Nat} (ha:Sz a K) (hb:Sz b J) (hk:K+1≤M) (hj:J+1≤M):Sz (a+b) M:=by
 obtain ⟨m,rfl⟩:∃ m,M=m+1:=⟨M-1,by omega⟩
 have h1:=JI (ha.le (show K≤m by omega))
 have h2:=JI (hb.le (show J≤m by omega))
 refine jO (show _<4294967296^(m+1) from ?_)
 rw [Nat.pow_succ]
 have h3:(a+b).natAbs≤a.natAbs+b.natAbs:=Int.natAbs_add_le a b
 omega
theorem Sz.sub {a b:Int} {K J M:Nat} (ha:Sz a K) (hb:Sz b J) (hk:K+1≤M) (hj:J+1≤M):Sz (a-b) M:=by
 rw [Int.sub_eq_add_neg];exact ha.add hb.neg hk hj
theorem Sz.mul {a b:Int} {K J M:Nat} (ha:Sz a K) (hb:Sz b J) (hk:K+J≤M):Sz (a*b) M:=by
 refine jO (show _<4294967296^M from ?_)
 rw [Int.natAbs_mul]
 have h1:=JI ha
 have h2:=JI hb
 refine Nat.lt_of_lt_of_le (Nat.mul_lt_mul'' h1 h2) ?_
 rw [← Nat.pow_add]
 exact Nat.pow_le_pow_right (by decide) hk
theorem Sz.of {z:Int} {K n:Nat} (hz:z.natAbs≤n) (h:(limbs n).length≤K):Sz z K:=jO (show _<4294967296^K from Nat.lt_of_le_of_lt hz (dX h))
theorem Ib.load {X:World} {N:Nat} {b:Bool} {m:Value} (h:Ib X N b m):(Instr.loadAt 48 (.pointer (some ⟨N,0,none⟩))).run Tryz.prog X = .ok (.agg #[.bool b,m]) X:=by
 obtain ⟨h0,h1,h2,h3,h4⟩:=h
 go_simp
theorem VC (d:Nat) (v:Value) (l:List (Nat × Value)):Pl.dF ((d,v)::l) (.tmp d)=some v:=by
 show Pl.look ((d,v)::l) d=_
 unfold Pl.look
 rw [Nat.beq_refl]
section
variable {L:List Oper} {S:World→Prop} {K:List (Nat × Value)→World→Prop} {i m d:Nat} {o:Oper} {x y:Operand} {r:List (Bool × Nat × Nat)} {l:List (Nat × Value)} {w:World} {b b0:Bool} {A A0:Option Addr} {n c n0 c0 N:Nat}
end
end Go.Proofs.YtfhcmggpojhegaaGreatDoor
/- Rows of whole numbers as arguments, in the walk by plans. -/
namespace Go.Proofs.YtfhcmggpojhegaaGreatDoor
open Go.RowKit
set_option linter.unusedVariables false
set_option maxHeartbeats 400000
section
variable {L:List Oper} {S:World→Prop} {K:List (Nat × Value)→World→Prop} {k:Bool} {i m d:Nat} {o:Oper} {x:Operand} {r:List (Bool × Nat × Nat)} {l:List (Nat × Value)} {w:World} {b b1 b2:Bool} {A A1 A2:Option Addr} {n c n1 c1 n2 c2:Nat}
end
theorem Sz.cut {w:World} {v:Value} {xs:List Nat} (u:U w v xs) (b:Bool) (k K:Nat) (hk:k≤K):Sz (sg b (lF xs k)) K:=by
 show (limbs (sg b (lF xs k)).natAbs).length≤K
 rw [Qh]
 exact Nat.le_trans (jS xs k u.lim) hk
end Go.Proofs.YtfhcmggpojhegaaGreatDoor
/- Small numbers in the walk by plans: comparisons, signs, products. -/
namespace Go.Proofs.YtfhcmggpojhegaaGreatDoor
open Go.RowKit
set_option linter.unusedVariables false
set_option maxHeartbeats 400000
theorem Jy {x y:Operand} {a b:Int} {v:Bool} (h:decide (b≤a)=v) (X:World):(do eqGuard .geq 3 x y (.int .i64 a) (.int .i64 b);binOp .geq 3 (.int .i64 a) (.int .i64 b):Sem Value).run Tryz.prog X = .ok (.bool v) X:=by
 subst h;go_simp
theorem zQ (a b:Int):Int.sign (a-b)=dY a b:=by
 unfold dY
 rcases Int.lt_trichotomy a b with h | h | h
 · rw [Int.sign_eq_neg_one_of_neg (by omega)];simp [h]
 · subst h;simp
 · rw [Int.sign_eq_one_of_pos (by omega)];simp [show ¬ a<b by omega,h]
theorem zR {x y:Operand} {a b:Int} {v:Bool} (h:decide (b<a)=v) (X:World):(do eqGuard .gtr 3 x y (.int .i64 a) (.int .i64 b);binOp .gtr 3 (.int .i64 a) (.int .i64 b):Sem Value).run Tryz.prog X = .ok (.bool v) X:=by
 subst h;go_simp
section
variable {L:List Oper} {S:World→Prop} {K:List (Nat × Value)→World→Prop} {k:Bool} {i m d:Nat} {o:Oper} {x:Operand} {r:List (Bool × Nat × Nat)} {l:List (Nat × Value)} {w:World}
theorem bL {T:TypeId} {j:Nat} {p v:Value} (hS:S w) (ho:Pl.nth L i=some o) (hop:o.op = .fieldAddr T x j) (hd:o.dst=some d) (hg:Pl.gd L l o.guard=some true) (hx:Pl.dF l x=some p)
  (hr:∀ X,(Instr.fieldAt T p j).run Tryz.prog X = .ok v X) (h:Pl.dO Tryz.prog L S K r ((d,v)::l) w):Pl.dO Tryz.prog L S K ((k,i,m)::r) l w :=
 Pl.dB hS ho hd hg (fun ρ hρ X _=>by unfold execOp;rw [hop];exact Pl.fJ _ X (by rw [hρ.dF hx];exact hr X)) h
theorem eT {A:Option Addr} {n c:Nat} (hS:S w) (ho:Pl.nth L i=some o) (hop:o.op = .call { callee:=.builtin .len,args:=#[x],argTypes:=#[22] }) (hd:o.dst=some d) (hg:Pl.gd L l o.guard=some true) (hx:Pl.dF l x=some (.slice A n c))
  (h:Pl.dO Tryz.prog L S K r ((d,.int .i64 (n:Int))::l) w):Pl.dO Tryz.prog L S K ((k,i,m)::r) l w :=
 Pl.dB hS ho hd hg (fun ρ hρ X _=>by
  obtain ⟨d',op',t',ps',awl,gu'⟩:=o
  cases hop
  have e:=hρ.dF hx
  simp [go_sem,e]) h
end
theorem Sz.div {a b:Int} {K:Nat} (h:Sz a K):Sz (a/b) K:=by
 refine jO (show _<4294967296^K from Nat.lt_of_le_of_lt (Int.natAbs_ediv_le_natAbs a b) (JI h))
theorem Sz.mod {a b:Int} {K:Nat} (h:Sz b K) (h0:b≠0):Sz (a%b) K:=by
 refine jO (show _<4294967296^K from Nat.lt_of_le_of_lt ?_ (JI h))
 have h1:=Int.emod_nonneg a h0
 have h2:=Int.emod_lt a h0
 omega
theorem jc {x y:Operand} {a b:Int} {v:Bool} (h:decide (a<b)=v) (X:World):(do eqGuard .lss 3 x y (.int .i64 a) (.int .i64 b);binOp .lss 3 (.int .i64 a) (.int .i64 b):Sem Value).run Tryz.prog X = .ok (.bool v) X:=by
 subst h;go_simp
end Go.Proofs.YtfhcmggpojhegaaGreatDoor
/- Small numbers reckoned, in the walk by plans. -/
namespace Go.Proofs.YtfhcmggpojhegaaGreatDoor
open Go.RowKit
set_option linter.unusedVariables false
set_option maxHeartbeats 400000
section
variable {x y:Operand} {X:World}
theorem nM {a b c:Int} (h:a+b=c) (h1 : -1000000000≤c) (h2:c≤1000000000) (X:World):(do eqGuard .add 3 x y (.int .i64 a) (.int .i64 b);binOp .add 3 (.int .i64 a) (.int .i64 b):Sem Value).run Tryz.prog X = .ok (.int .i64 c) X:=by
 have:IntKind.i64.wrap c=c:=IntWalk.i64_in _ (by omega)
 go_simp
theorem JJ {a b c:Int} (h:a-b=c) (h1 : -1000000000≤c) (h2:c≤1000000000) (X:World):(do eqGuard .sub 3 x y (.int .i64 a) (.int .i64 b);binOp .sub 3 (.int .i64 a) (.int .i64 b):Sem Value).run Tryz.prog X = .ok (.int .i64 c) X:=by
 have:IntKind.i64.wrap c=c:=IntWalk.i64_in _ (by omega)
 go_simp
section
variable {L:List Oper} {S:World→Prop} {K:List (Nat × Value)→World→Prop} {k:Bool} {i m d:Nat} {o:Oper} {r:List (Bool × Nat × Nat)} {l:List (Nat × Value)} {w:World}
theorem og {s t:TypeId} {u v:Value} (hS:S w) (ho:Pl.nth L i=some o) (hop:o.op = .convert s t x) (hd:o.dst=some d) (hg:Pl.gd L l o.guard=some true) (hx:Pl.dF l x=some u)
  (hr:∀ X,(convert s t u).run Tryz.prog X = .ok v X) (h:Pl.dO Tryz.prog L S K r ((d,v)::l) w):Pl.dO Tryz.prog L S K ((k,i,m)::r) l w :=
 Pl.dB hS ho hd hg (fun ρ hρ X _=>by unfold execOp;rw [hop];exact Pl.fJ _ X (by rw [hρ.dF hx];exact hr X)) h
end
end
end Go.Proofs.YtfhcmggpojhegaaGreatDoor
