/- The document's own Make and Made. -/
import Derived.Test.YtnilonnkcbkdmaaGreatDoorBae
import Derived.Test.YtnilonnkcbkdmaaGreatDoorBag
import Derived.Test.YtnilonnkcbkdmaaGreatDoorBah
import Derived.Test.YtnilonnkcbkdmaaGreatDoorBaf
import Derived.Deep.RegionHeld3

namespace Go.Proofs.YtnilonnkcbkdmaaGreatDoor
open Go.RowKit
set_option linter.unusedVariables false
set_option maxHeartbeats 400000
set_option maxRecDepth 100000
attribute [local go_sem ↓] dH
attribute [local go_sem] aT
theorem aW (w:World) (v:Value) (xs:List Nat) (h:U w v xs) (hlen:xs.length≤1000000000) :
  Calls Tryz.prog 37 #[v] w fun e w'=>(∃ u,e = .returned u∧U w' u (limbs (val xs)))∧Below w.heap.size w w':=by
 have h':=h
 obtain ⟨A,c,rfl,⟨hc,hm⟩,hx,hr⟩:=h
 go_enter Tryz.func37,Tryz.ntmps37
 go_wp2
 go_loop [3] (fun n=>∃ k:Nat,k≤xs.length∧n = .int .i64 k∧Hid (∀ j,k≤j→j<xs.length→lb xs j=0)) (fun n=>(intOf n).toNat)
 case atStart=>exact ⟨xs.length,Nat.le_refl _,rfl,fun j h1 h2=>by omega⟩
 case round =>
  obtain ⟨k,hk,rfl,hz⟩:=hrel
  have hfin:(0<k→lb xs (k-1)≠0)→∃ v' w',(Builtin.append_ #[22,22] 22 #[.slice (some ⟨w.heap.size,0,none⟩) 0 0,.slice A k c]).run Tryz.prog (w.alloc (.cells #[] 43)) = .ok v' w'∧U w' v' (limbs (val xs))∧Below w.heap.size w w':=fun h2=>by
   have hB:Below w.heap.size w (w.alloc (.cells #[] 43)):=(Below.refl _ _).alloc (Nat.le_refl _) _
   have hown:Own (w.alloc (.cells #[] 43)) w.heap.size (.slice (some ⟨w.heap.size,0,none⟩) 0 0) []:=World.ownsRow_lit w #[] 0 (Nat.le_refl _) (Nat.zero_le _) rfl
   have hu:U w (.slice A k c) (xs.take k):=h'.take hk (by omega)
   have htl:(xs.take k).length=k:=by simp;omega
   obtain ⟨v',w',hrun,ho,hg⟩:=bE _ w.heap.size _ [] hown _ _ (hu.below hB) (by rw [htl];simp;omega) hB.size
   refine ⟨v',w',hrun,?_,hB.grown hg hB.size (fun j e=>by cases e;exact Nat.le_refl _)⟩
   rw [iJ xs k hx hk hz.out h2]
   rw [List.nil_append] at ho
   exact ho.lW (fun x hx'=>hx x (List.mem_of_mem_take hx')) (by rw [htl];omega)
  rcases Nat.eq_zero_or_pos k with rfl | h0
  · obtain ⟨v',w',hrun,HU,HB⟩:=hfin (fun h=>absurd h (by omega))
    obtain ⟨t1,t2,t3⟩:=aU hrun
    clear hfin hrun
    go_wp2
    go_ret
    exact ⟨⟨_,rfl,HU⟩,HB⟩
  · obtain ⟨ad,rfl,hb,hcell⟩:=hr (by omega)
    have hc1:=hcell (k-1) (by omega)
    by_cases hx0:lb xs (k-1)=0
    · have ht:((((lb xs (k-1):Nat)):Int)==0)=true:=by rw [hx0];rfl
      have HX:=Lib.hid hx0
      clear hx0 hfin
      go_wp2
      go_round
      case rel=>exact ⟨k-1,by omega,by go_num,fun j h1 h2=>by
       rcases Nat.lt_or_ge j k with h3 | h3
       · have:j=k-1:=by omega
         subst this;exact HX.out
       · exact hz.out j h3 h2⟩
      case measure=>simp [intOf];omega
    · have ht:((((lb xs (k-1):Nat)):Int)==0)=false:=by rw [beq_eq_false_iff_ne];omega
      obtain ⟨v',w',hrun,HU,HB⟩:=hfin (fun _=>hx0)
      obtain ⟨t1,t2,t3⟩:=aU hrun
      clear hfin hrun hx0
      go_wp2
      go_ret
      exact ⟨⟨_,rfl,HU⟩,HB⟩
end Go.Proofs.YtnilonnkcbkdmaaGreatDoor
/- The document's own Made. -/
namespace Go.Proofs.YtnilonnkcbkdmaaGreatDoor
open Go.RowKit
set_option linter.unusedVariables false
set_option maxHeartbeats 400000
set_option maxRecDepth 100000
def dG (xs:List Nat) (k:Nat):Nat:=val (xs.take k)
theorem aga (xs:List Nat) (k:Nat) (hx:∀ x∈xs,x<4294967296):(limbs (dG xs k)).length≤k:=by
 apply fM
 have:=lM (xs.take k) (fun x h=>hx x (List.mem_of_mem_take h))
 refine Nat.lt_of_lt_of_le this (Nat.pow_le_pow_right (by decide) ?_)
 rw [List.length_take];omega
end Go.Proofs.YtnilonnkcbkdmaaGreatDoor
/- The contracts in one form: whatever lay lies as it lay; the results as the callers ask for them. -/
namespace Go.Proofs.YtnilonnkcbkdmaaGreatDoor
open Go.RowKit
set_option linter.unusedVariables false
theorem Un.alloc {w:World} {v:Value} {n:Nat} (h:Un w v n) (o:Obj):Un (w.alloc o) v n:=U.alloc h o
theorem U.un {w:World} {v:Value} {xs:List Nat} {n:Nat} (h:U w v xs) (e:limbs n=xs):Un w v n:=by rw [Un,e];exact h
theorem lim {n:Nat} (xs:List Nat) (hv:val xs=n) (hx:∀ x∈xs,x<4294967296) (hl:xs≠[]→xs[xs.length-1]?.getD 0≠0):limbs n=xs:=by rw [← hv];exact Mw xs hx hl
theorem uA (w:World):Un w (.slice none 0 0) 0:=by rw [Un,bf];exact U.mE _ _ _
theorem alx (w:World) (v u:Value) (xs ys:List Nat) (h:U w v xs) (g:U w u ys) (b:Bool) (hb:decide (xs=ys)=b) :
  Calls Tryz.prog 19 #[v,u] w fun e w'=>e = .returned (.bool b)∧Ext w w' :=
 (U4 w v u xs ys h g).mono fun e w' ⟨he,n,hw⟩=>⟨by rw [he,hb],by rw [hw];exact eU w n⟩
theorem Dl (w:World) (v:Value) (xs:List Nat) (h:U w v xs) (n:Nat) (hn:val xs=n) :
  Calls Tryz.prog 77 #[v] w fun e w'=>∃ u,e = .returned u∧Un w' u n∧Ext w w' :=
 (nV w v xs h).mono fun e w' ⟨⟨u,he,hu⟩,hw⟩=>⟨u,he,by rw [← hw,Un,← hn];exact hu,by rw [← hw];exact Ext.refl w⟩
theorem of_B (w:World) (k:Int) (h0:0≤k) (h1:k<18446744073709551616) (n:Nat) (hn:k.toNat=n) :
  Calls Tryz.prog 54 #[.int .u64 k] w fun e w'=>∃ u,e = .returned u∧Un w' u n∧Ext w w':=by
 subst hn
 have:=aat w k.toNat (by omega)
 rw [show ((k.toNat:Nat):Int)=k by omega] at this
 exact this.mono fun e w' ⟨⟨u,he,hu⟩,hb⟩=>⟨u,he,hu,hb⟩
theorem aj4 (w:World) (v:Value) (n:Nat) (h:Un w v n) (k:Int) (b:Bool) (hk:((Gj n:Nat):Int)=k) (hb:BQ n=b) :
  Calls Tryz.prog 53 #[v] w fun e w'=>e = .returned (.tuple #[.int .u64 k,.bool b])∧Ext w w' :=
 (aau w v n h).mono fun e w' ⟨he,hw⟩=>⟨by rw [he,hk,hb],by rw [← hw];exact Ext.refl w⟩
theorem aa2 (w:World) (v:Value) (n:Nat) (h:Un w v n) (hl:(limbs n).length≤1000000000) (k:Int) (hk:((bS n:Nat):Int)=k) :
  Calls Tryz.prog 64 #[v] w fun e w'=>e = .returned (.int .i64 k)∧Ext w w' :=
 (U5 w v n h hl).mono fun e w' ⟨he,hw⟩=>⟨by rw [he,hk],by rw [← hw];exact Ext.refl w⟩
theorem asb (w:World) (v:Value) (n:Nat) (i:Int) (h:Un w v n) (hi0 : -9000000000000≤i) (hi1:i≤9000000000000) (k:Int) (hk:((fQ n i:Nat):Int)=k) :
  Calls Tryz.prog 65 #[v,.int .i64 i] w fun e w'=>e = .returned (.int .u32 k)∧Ext w w' :=
 (aav w v n i hi0 hi1 h).mono fun e w' ⟨he,hw⟩=>⟨by rw [he,hk],by rw [← hw];exact Ext.refl w⟩
theorem KO (w:World) (v u:Value) (n m:Nat) (h:Un w v n) (g:Un w u m) (k:Int) (hk:bQ n m=k) :
  Calls Tryz.prog 80 #[v,u] w fun e w'=>e = .returned (.int .i64 k)∧Ext w w' :=
 (Er w v u n m h g).mono fun e w' ⟨he,hw⟩=>⟨by rw [he,hk],hw⟩
theorem afV (w:World) (v u:Value) (n m:Nat) (h:Un w v n) (g:Un w u m) (hm:(limbs n).length≤1000000000) (hm2:(limbs m).length≤1000000000) (s:Nat) (hs:n+m=s) :
  Calls Tryz.prog 94 #[v,u] w fun e w'=>∃ z,e = .returned z∧Un w' z s∧Ext w w':=by
 subst hs
 have:=U0 w v u _ _ h g hm hm2
 rw [aG,aG] at this
 exact this.mono fun e w' ⟨⟨z,he,hz⟩,hb⟩=>⟨z,he,hz,hb⟩
theorem afW (w:World) (v u:Value) (n m:Nat) (h:Un w v n) (g:Un w u m) (hm:(limbs n).length≤1000000000) (b:Bool) (hb:decide (m≤n)=b) (d:Nat) (hd:n-m=d) :
  Calls Tryz.prog 95 #[v,u] w fun e w'=>∃ z,e = .returned (.tuple #[z,.bool b])∧Un w' z d∧Ext w w':=by
 subst hd hb
 exact (U2 w v u n m h g hm).mono fun e w' ⟨⟨z,he,hz⟩,hb⟩=>⟨z,he,hz,hb⟩
theorem ajQ (w:World) (v:Value) (n:Nat) (k:Int) (h:Un w v n) (hk0:0≤k) (hk1:k≤1000000000) (hl:(limbs n).length≤1000000000) (s:Nat) (hs:n*2^k.toNat=s) :
  Calls Tryz.prog 115 #[v,.int .i64 k] w fun e w'=>∃ u,e = .returned u∧Un w' u s∧Ext w w':=by
 subst hs
 exact (aaw w v n k hk0 hk1 h hl).mono fun e w' ⟨⟨u,he,hu⟩,hb⟩=>⟨u,he,hu,hb⟩
theorem aq7 (w:World) (v:Value) (n:Nat) (k:Int) (h:Un w v n) (hk0:0≤k) (hk1:k≤1000000000) (hl:(limbs n).length≤1000000000) (s:Nat) (hs:n/2^k.toNat=s) :
  Calls Tryz.prog 114 #[v,.int .i64 k] w fun e w'=>∃ u,e = .returned u∧Un w' u s∧Ext w w':=by
 subst hs
 exact (aax w v n k hk0 hk1 h hl).mono fun e w' ⟨⟨u,he,hu⟩,hb⟩=>⟨u,he,hu,hb⟩
end Go.Proofs.YtnilonnkcbkdmaaGreatDoor
/- Whole numbers: a sign and a size. -/
namespace Go.Proofs.YtnilonnkcbkdmaaGreatDoor
open Go.RowKit
set_option linter.unusedVariables false
set_option maxHeartbeats 400000
def Zn (w:World) (v:Value) (z:Int):Prop:=∃ A c,v = .agg #[.bool (decide (z<0)),.slice A (limbs z.natAbs).length c]∧Un w (.slice A (limbs z.natAbs).length c) z.natAbs
theorem Zn.below {w w':World} {v:Value} {z:Int} (h:Zn w v z) (k:Ext w w'):Zn w' v z:=by
 obtain ⟨A,c,e,hu⟩:=h
 exact ⟨A,c,e,Un.below hu k⟩
def sg (b:Bool) (n:Nat):Int:=if b then -(n:Int) else (n:Int)
theorem afU (b:Bool) (n:Nat):(sg b n).natAbs=n:=by unfold sg;split<;>omega
theorem ape (b:Bool) (n:Nat):decide (sg b n<0)=(b&&decide (0<n)):=by
 unfold sg
 cases b
 · simp
 · simp
theorem FH (n:Nat):sg true n = -(n:Int):=rfl
theorem rW (n:Nat):sg false n=(n:Int):=rfl
theorem avy (z:Int):sg (decide (z<0)) z.natAbs=z:=by
 unfold sg
 by_cases h:z<0
 · rw [decide_eq_true h,if_pos rfl];omega
 · rw [decide_eq_false h,if_neg (by decide)];omega
theorem Zn.mk' {w:World} {A:Option Addr} {L c n:Nat} {z:Int} {b:Bool} (hu:Un w (.slice A L c) n) (hL:(limbs n).length=L) (hz:z.natAbs=n) (hs:decide (z<0)=b):Zn w (.agg #[.bool b,.slice A L c]) z:=by
 subst hs hz hL
 exact ⟨A,c,rfl,hu⟩
theorem Zn.zero (w:World) (A:Option Addr) (c:Nat):Zn w (.agg #[.bool false,.slice A 0 c]) 0:=by
 refine ⟨A,c,?_,?_⟩
 · show _=Value.agg #[.bool false,.slice A (limbs 0).length c]
   rw [bf];rfl
 · show Un w (.slice A (limbs 0).length c) 0
   rw [Un,bf];exact U.mE _ _ _
theorem Zn.open {w:World} {v:Value} {z:Int} (h:Zn w v z):∃ (b:Bool) (A:Option Addr) (L c n:Nat),v = .agg #[.bool b,.slice A L c]∧Un w (.slice A L c) n∧(limbs n).length=L∧z=sg b n∧(b=true→n≠0)∧z.natAbs=n∧decide (z<0)=b:=by
 obtain ⟨A,c,e,hu⟩:=h
 refine ⟨decide (z<0),A,_,c,z.natAbs,e,hu,rfl,(avy z).symm,fun hb=>?_,rfl,rfl⟩
 have:=of_decide_eq_true hb
 omega
def Ri (w:World) (v:Value) (b:Bool) (xs:List Nat):Prop:=∃ A c,v = .agg #[.bool b,.slice A xs.length c]∧U w (.slice A xs.length c) xs
theorem Ri.below {w w':World} {v:Value} {b:Bool} {xs:List Nat} (h:Ri w v b xs) (k:Ext w w'):Ri w' v b xs:=by
 obtain ⟨A,c,e,hu⟩:=h
 exact ⟨A,c,e,U.below hu k⟩
theorem Zn.ri {w:World} {v:Value} {z:Int} (h:Zn w v z):Ri w v (decide (z<0)) (limbs z.natAbs):=by
 obtain ⟨A,c,e,hu⟩:=h
 exact ⟨A,c,e,hu⟩
theorem U.avz {w:World} {v:Value} {xs:List Nat} (h:U w v xs) {p:Addr} {old:Value} (hp:w.cell? p=some old) (ho:∀ k n,old≠.int k n) (x:Value):U (w.setCell p x) v xs:=by
 obtain ⟨A,c,rfl,hc,hx,hr⟩:=h
 refine ⟨A,c,rfl,hc,hx,fun h0=>?_⟩
 obtain ⟨ad,hA,hb,hcell⟩:=hr h0
 refine ⟨ad,hA,by simpa using hb,fun j hj=>?_⟩
 have h1:=hcell j hj
 rw [World.cell?_setCell_other]
 · exact h1
 · intro e
   rw [e,h1] at hp
   exact ho _ _ (Option.some.inj hp).symm
def Ib (w:World) (N:Nat) (b:Bool) (m:Value):Prop:=N<w.heap.size∧w.cell? ⟨N,0,none⟩=some (.bool b)∧w.cell? ⟨N,1,none⟩=some m∧w.frozen? ⟨N,0,none⟩=false∧w.frozen? ⟨N,1,none⟩=false
theorem Ib.ext {w w':World} {N:Nat} {b:Bool} {m:Value} (h:Ib w N b m) (k:Ext w w'):Ib w' N b m:=by
 obtain ⟨h0,h1,h2,h3,h4⟩:=h
 exact ⟨Nat.lt_of_lt_of_le h0 k.size,(k.cell (p:=⟨N,0,none⟩) h0).trans h1,(k.cell (p:=⟨N,1,none⟩) h0).trans h2,(k.frozen (p:=⟨N,0,none⟩) h0).trans h3,(k.frozen (p:=⟨N,1,none⟩) h0).trans h4⟩
theorem Ib.new (w:World) (b:Bool) (m:Value) (T:TypeId):Ib (w.alloc (.cells #[.bool b,m] T)) w.heap.size b m:=by
 refine ⟨by simp,?_,?_,?_,?_⟩<;>go_simp
theorem Ib.new2 (w:World) (o:Obj) (b:Bool) (m:Value) (T:TypeId):Ib ((w.alloc o).alloc (.cells #[.bool b,m] T)) (w.heap.size+1) b m:=by
 have:=Ib.new (w.alloc o) b m T
 simpa using this
theorem Ib.aad (w:World) (o o2:Obj) (b:Bool) (m:Value) (T:TypeId):Ib (((w.alloc o).alloc o2).alloc (.cells #[.bool b,m] T)) (w.heap.size+1+1) b m:=by
 have:=Ib.new2 (w.alloc o) o2 b m T
 simpa using this
theorem Un.jS {w:World} {v:Value} {n N:Nat} {b:Bool} {m:Value} (h:Un w v n) (hI:Ib w N b m) (hm:∀ k x,m≠.int k x) (x y:Value):Un ((w.setCell ⟨N,0,none⟩ x).setCell ⟨N,1,none⟩ y) v n:=by
 obtain ⟨h0,h1,h2,h3,h4⟩:=hI
 refine U.avz (U.avz h h1 (fun _ _ e=>by cases e) x) (old:=m) ?_ hm y
 rw [World.cell?_setCell_other _ _ _ _ (fun e=>by cases e)]
 exact h2
theorem Zn.jS {w:World} {v:Value} {z:Int} {N:Nat} {b:Bool} {m:Value} (h:Zn w v z) (hI:Ib w N b m) (hm:∀ k x,m≠.int k x) (x y:Value):Zn ((w.setCell ⟨N,0,none⟩ x).setCell ⟨N,1,none⟩ y) v z:=by
 obtain ⟨A,c,e,hu⟩:=h
 exact ⟨A,c,e,Un.jS hu hI hm x y⟩
theorem Ext.jS {w0 w:World} {N:Nat} (h:Ext w0 w) (hN:w0.heap.size≤N) (x y:Value):Ext w0 ((w.setCell ⟨N,0,none⟩ x).setCell ⟨N,1,none⟩ y):=(h.setCell hN _).setCell hN _
theorem dF (A:Option Addr) (l c:Nat):∀ k n,Value.slice A l c≠.int k n:=fun _ _ e=>by cases e
theorem Un.sh {w:World} {v:Value} {n:Nat} (h:Un w v n):∃ A c,v = .slice A (limbs n).length c∧(limbs n).length≤c:=by
 obtain ⟨A,c,e,hc,_⟩:=h
 exact ⟨A,c,e,hc.1⟩
theorem Ej (n:Nat):(n=0∧(limbs n).length=0)∨(n≠0∧0<(limbs n).length):=by
 by_cases h:n=0
 · subst h;exact .inl ⟨rfl,by rw [bf];rfl⟩
 · exact .inr ⟨h,by rw [eG h];simp⟩
set_option maxRecDepth 100000 in
theorem tH (w:World) (b:Bool) (v:Value) (xs:List Nat) (hu:U w v xs) (n:Nat) (hn:val xs=n) (z:Int) (hz:sg b n=z) :
  Calls Tryz.prog 44 #[.bool b,v] w fun e w'=>∃ u,e = .returned u∧Zn w' u z∧Ext w w':=by
 have hM:=Lib.hid (fun W h=>Dl W v xs h n hn)
 have hE0:=(Ext.refl w).alloc (.cells #[.bool false,.slice none 0 0] 27)
 have hI0:=Ib.new w false (.slice none 0 0) 27
 have hu0:=hu.below hE0
 have hza:z.natAbs=n:=by rw [← hz,afU]
 have hzn:decide (z<0)=(b&&decide (0<n)):=by rw [← hz,ape]
 obtain ⟨L,hL⟩:∃ L,(limbs n).length=L:=⟨_,rfl⟩
 have hc:=Ej n
 rw [hL] at hc
 have HL:=Lib.hid hL
 have HZ:=Lib.hid (And.intro hza hzn)
 obtain ⟨A0,c0,rfl,-⟩:=id hu
 obtain ⟨l0,hl0⟩:∃ l,xs.length=l:=⟨_,rfl⟩
 rw [hl0] at hM hu0 ⊢
 clear hl0
 clear hz hn hL hza hzn
 rcases hc with ⟨h1,rfl⟩ | ⟨h1,h2⟩
 · subst h1
   cases b
   all_goals (
    go_enter Tryz.func44,Tryz.ntmps44
    go_wp2_with (go_at_call 77;refine (hM.out _ hu0).mono ?_;rintro e w2 ⟨u,rfl,hu2,hE2⟩;obtain ⟨A,c,rfl,hc⟩:=Un.sh hu2;rw [HL.out] at hu2 ⊢;clear hc;have hI2:=hI0.ext hE2;obtain ⟨i0,i1,i2,i3,i4⟩:=id hI2)
    (try simp only [Exit.inBlock,Exit.then])
    refine bodyPost_ret (v:=.agg #[.bool false,.slice A 0 c]) (show (results _ _).run _ _=_ from ?_) rfl ⟨_,rfl,Zn.mk' (Un.jS hu2 hI2 (dF _ _ _) _ _) HL.out HZ.out.1 HZ.out.2,(hE0.below hE2).jS (Nat.le_refl _) _ _⟩
    simp only [results]
    go_simp)
 · have h3:(0:Int)<(L:Int):=by omega
   have hb0:Hid (decide (0<n)=true):=decide_eq_true (by omega)
   cases b
   case' false=>have HS:Hid (decide (z<0)=false):=by show _=_;rw [HZ.out.2];rfl
   case' true=>have HS:Hid (decide (z<0)=true):=by show _=_;rw [HZ.out.2,hb0.out];rfl
   all_goals (
    go_enter Tryz.func44,Tryz.ntmps44
    go_wp2_with (go_at_call 77;refine (hM.out _ hu0).mono ?_;rintro e w2 ⟨u,rfl,hu2,hE2⟩;obtain ⟨A,c,rfl,hc⟩:=Un.sh hu2;rw [HL.out] at hu2 ⊢;clear hc;have hI2:=hI0.ext hE2;obtain ⟨i0,i1,i2,i3,i4⟩:=id hI2)
    (try simp only [Exit.inBlock,Exit.then])
    refine bodyPost_ret (v:=.agg #[.bool _,.slice A L c]) (show (results _ _).run _ _=_ from ?_) rfl ⟨_,rfl,Zn.mk' (Un.jS hu2 hI2 (dF _ _ _) _ _) HL.out HZ.out.1 HS.out,(hE0.below hE2).jS (Nat.le_refl _) _ _⟩
    simp only [results]
    go_simp)
end Go.Proofs.YtnilonnkcbkdmaaGreatDoor
/- Whole numbers: signs, and what is turned about. -/
namespace Go.Proofs.YtnilonnkcbkdmaaGreatDoor
open Go.RowKit
set_option linter.unusedVariables false
set_option maxHeartbeats 400000
theorem Zn.sh {w:World} {v:Value} {z:Int} (h:Zn w v z):∃ b A L c,v = .agg #[.bool b,.slice A L c]:=by
 obtain ⟨A,c,e,_⟩:=h
 exact ⟨_,A,_,c,e⟩
theorem apf (b:Bool) (n:Nat):sg (!b) n = -(sg b n):=by cases b<;>simp [sg]
set_option maxRecDepth 100000 in
theorem aAV (w:World) (v:Value) (z:Int) (h:Zn w v z) (y:Int) (hy : -z=y) :
  Calls Tryz.prog 76 #[v] w fun e w'=>∃ u,e = .returned u∧Zn w' u y∧Ext w w':=by
 obtain ⟨b,A,L,c,n,rfl,hu,hL,hz,hb,hza,hzn⟩:=h.open
 have hE0:=((Ext.refl w).alloc (.cells #[.bool b,.slice A L c] 27)).alloc (.cells #[.bool false,.slice none 0 0] 27)
 have hI0:=Ib.new2 w (.cells #[.bool b,.slice A L c] 27) false (.slice none 0 0) 27
 have Dh:=(Ib.new w b (.slice A L c) 27).ext ((Ext.refl _).alloc (.cells #[.bool false,.slice none 0 0] 27))
 have hu0:=hu.below hE0
 have hM:=Lib.hid (fun W h=>tH W (!b) (.slice A L c) (limbs n) h n (aG n) y (by rw [apf,← hz];exact hy))
 obtain ⟨p0,p1,p2,p3,p4⟩:=id Dh
 clear hz hb hza hzn hL hy h
 go_enter Tryz.func76,Tryz.ntmps76
 go_wp2_with (go_at_call 44;refine (hM.out _ hu0).mono ?_;rintro e w2 ⟨u,rfl,hz2,hE2⟩;obtain ⟨b2,A2,L2,c2,rfl⟩:=hz2.sh;have hI2:=hI0.ext hE2;obtain ⟨i0,i1,i2,i3,i4⟩:=id hI2)
 (try simp only [Exit.inBlock,Exit.then])
 refine bodyPost_ret (v:=.agg #[.bool b2,.slice A2 L2 c2]) (show (results _ _).run _ _=_ from ?_) rfl ⟨_,rfl,hz2.jS hI2 (dF _ _ _) _ _,(hE0.below hE2).jS (by simp) _ _⟩
 simp only [results]
 go_simp
theorem ajg (b:Bool) (n:Nat) (hb:b=true→n≠0):Int.sign (sg b n)=if n=0 then 0 else if b then -1 else 1:=by
 cases b
 · rw [rW]
   by_cases h:n=0
   · subst h;rfl
   · rw [if_neg h,if_neg (by decide)];exact Int.sign_eq_one_of_pos (by omega)
 · rw [FH]
   have:=hb rfl
   rw [if_neg this,if_pos rfl];exact Int.sign_eq_neg_one_of_neg (by omega)
set_option maxRecDepth 100000 in
theorem Wn (w:World) (v:Value) (z:Int) (h:Zn w v z) (k:Int) (hk:Int.sign z=k) :
  Calls Tryz.prog 111 #[v] w fun e w'=>e = .returned (.int .i64 k)∧Ext w w':=by
 obtain ⟨b,A,L,c,n,rfl,hu,hL,hz,hb,hza,hzn⟩:=h.open
 have hE0:=(Ext.refl w).alloc (.cells #[.bool b,.slice A L c] 27)
 have hk2:=ajg b n hb
 rw [← hz,hk] at hk2
 have hcs:=Ej n
 rw [hL] at hcs
 clear hz hza hzn hL hk h
 rcases hcs with ⟨h1,rfl⟩ | ⟨h1,h2⟩
 · rw [if_pos h1] at hk2
   subst hk2
   clear hb h1
   go_enter Tryz.func111,Tryz.ntmps111
   go_wp2
   go_ret
   exact ⟨rfl,hE0⟩
 · rw [if_neg h1] at hk2
   have h3:((L:Int)==0)=false:=by rw [beq_eq_false_iff_ne];omega
   have h4:¬ (L=0):=by omega
   cases b
   case' false=>rw [if_neg (by decide)] at hk2
   case' true=>rw [if_pos rfl] at hk2
   all_goals (
    subst hk2
    clear hb h1
    go_enter Tryz.func111,Tryz.ntmps111
    go_wp2
    go_ret
    exact ⟨rfl,hE0⟩)
set_option maxRecDepth 100000 in
theorem zof (w:World) (z:Int) (h1 : -9223372036854775808≤z) (h2:z≤9223372036854775807) :
  Calls Tryz.prog 41 #[.int .i64 z] w fun e w'=>∃ u,e = .returned u∧Zn w' u z∧Ext w w':=by
 have hE0:=(Ext.refl w).alloc (.cells #[.bool false,.slice none 0 0] 27)
 have hI0:=Ib.new w false (.slice none 0 0) 27
 by_cases h0:z<0
 · obtain ⟨m,hm⟩:∃ m:Nat,-z=(m:Int):=⟨(-z).toNat,by omega⟩
   obtain ⟨k,hk⟩:∃ k:Nat,z+18446744073709551616=(k:Int):=⟨(z+18446744073709551616).toNat,by omega⟩
   have o1:z%18446744073709551616=(k:Int):=by omega
   have o2:IntKind.u64.wrap z=(k:Int):=by rw [IntKind.wrap_u64];omega
   have o3:(-(k:Int))%18446744073709551616=(m:Int):=by omega
   have o4:IntKind.u64.wrap (-(k:Int))=(m:Int):=by rw [IntKind.wrap_u64];omega
   have hM:=Lib.hid (fun W v h=>tH W true v (limbs m) h m (aG m) z (by rw [FH];omega))
   have hOf:=Lib.hid (fun W=>of_B W (m:Int) (by omega) (by omega) m (by simp))
   clear hm hk
   go_enter Tryz.func41,Tryz.ntmps41
   go_wp2_with (first
    | (go_at_call 54;refine (hOf.out _).mono ?_;rintro e w2 ⟨u,rfl,hu2,hE2⟩;obtain ⟨A2,c2,rfl,hc2⟩:=Un.sh hu2)
    | (go_at_call 44;refine (hM.out _ _ hu2).mono ?_;rintro e w3 ⟨u,rfl,hz3,pE⟩;obtain ⟨b3,A3,L3,c3,rfl⟩:=hz3.sh;have Bu:=(hI0.ext hE2).ext pE;obtain ⟨i0,i1,i2,i3,i4⟩:=id Bu))
   (try simp only [Exit.inBlock,Exit.then])
   refine bodyPost_ret (v:=.agg #[.bool b3,.slice A3 L3 c3]) (show (results _ _).run _ _=_ from ?_) rfl ⟨_,rfl,hz3.jS Bu (dF _ _ _) _ _,((hE0.below hE2).below pE).jS (by simp) _ _⟩
   simp only [results]
   go_simp
 · obtain ⟨m,rfl⟩:=Int.eq_ofNat_of_zero_le (show 0≤z by omega)
   have o1:(m:Int)%18446744073709551616=(m:Int):=by omega
   have o2:IntKind.u64.wrap (m:Int)=(m:Int):=by rw [IntKind.wrap_u64];omega
   have hM:=Lib.hid (fun W v h=>tH W false v (limbs m) h m (aG m) (m:Int) rfl)
   have hOf:=Lib.hid (fun W=>of_B W (m:Int) (by omega) (by omega) m (by simp))
   go_enter Tryz.func41,Tryz.ntmps41
   go_wp2_with (first
    | (go_at_call 54;refine (hOf.out _).mono ?_;rintro e w2 ⟨u,rfl,hu2,hE2⟩;obtain ⟨A2,c2,rfl,hc2⟩:=Un.sh hu2)
    | (go_at_call 44;refine (hM.out _ _ hu2).mono ?_;rintro e w3 ⟨u,rfl,hz3,pE⟩;obtain ⟨b3,A3,L3,c3,rfl⟩:=hz3.sh;have Bu:=(hI0.ext hE2).ext pE;obtain ⟨i0,i1,i2,i3,i4⟩:=id Bu))
   (try simp only [Exit.inBlock,Exit.then])
   refine bodyPost_ret (v:=.agg #[.bool b3,.slice A3 L3 c3]) (show (results _ _).run _ _=_ from ?_) rfl ⟨_,rfl,hz3.jS Bu (dF _ _ _) _ _,((hE0.below hE2).below pE).jS (by simp) _ _⟩
   simp only [results]
   go_simp
end Go.Proofs.YtnilonnkcbkdmaaGreatDoor
/- What is kept while numbers in their blocks are read, and an answer is made. -/
namespace Go.Proofs.YtnilonnkcbkdmaaGreatDoor
open Go.RowKit
set_option linter.unusedVariables false
set_option maxHeartbeats 400000
theorem afX {w X Y:World} {p q:Bool} {mp mq:Value} (h:(w.heap.size+1+1<X.heap.size∧X.cell? ⟨w.heap.size,0,none⟩=some (.bool p)∧X.cell? ⟨w.heap.size,1,none⟩=some mp∧X.cell? ⟨w.heap.size+1,0,none⟩=some (.bool q)∧X.cell? ⟨w.heap.size+1,1,none⟩=some mq)∧Ext w X) (k:Ext X Y):(w.heap.size+1+1<Y.heap.size∧Y.cell? ⟨w.heap.size,0,none⟩=some (.bool p)∧Y.cell? ⟨w.heap.size,1,none⟩=some mp∧Y.cell? ⟨w.heap.size+1,0,none⟩=some (.bool q)∧Y.cell? ⟨w.heap.size+1,1,none⟩=some mq)∧Ext w Y:=by
 obtain ⟨⟨h0,h1,h2,h3,h4⟩,hx⟩:=h
 have hs:=k.size
 exact ⟨⟨by omega,(k.cell (p:=⟨w.heap.size,0,none⟩) (by show w.heap.size<_;omega)).trans h1,(k.cell (p:=⟨w.heap.size,1,none⟩) (by show w.heap.size<_;omega)).trans h2,(k.cell (p:=⟨w.heap.size+1,0,none⟩) (by show w.heap.size+1<_;omega)).trans h3,(k.cell (p:=⟨w.heap.size+1,1,none⟩) (by show w.heap.size+1<_;omega)).trans h4⟩,hx.below k⟩
theorem afY {w X:World} {p q:Bool} {mp mq x y:Value} (h:(w.heap.size+1+1<X.heap.size∧X.cell? ⟨w.heap.size,0,none⟩=some (.bool p)∧X.cell? ⟨w.heap.size,1,none⟩=some mp∧X.cell? ⟨w.heap.size+1,0,none⟩=some (.bool q)∧X.cell? ⟨w.heap.size+1,1,none⟩=some mq)∧Ext w X):(w.heap.size+1+1<((X.setCell ⟨w.heap.size+1+1,0,none⟩ x).setCell ⟨w.heap.size+1+1,1,none⟩ y).heap.size∧((X.setCell ⟨w.heap.size+1+1,0,none⟩ x).setCell ⟨w.heap.size+1+1,1,none⟩ y).cell? ⟨w.heap.size,0,none⟩=some (.bool p)∧((X.setCell ⟨w.heap.size+1+1,0,none⟩ x).setCell ⟨w.heap.size+1+1,1,none⟩ y).cell? ⟨w.heap.size,1,none⟩=some mp∧((X.setCell ⟨w.heap.size+1+1,0,none⟩ x).setCell ⟨w.heap.size+1+1,1,none⟩ y).cell? ⟨w.heap.size+1,0,none⟩=some (.bool q)∧((X.setCell ⟨w.heap.size+1+1,0,none⟩ x).setCell ⟨w.heap.size+1+1,1,none⟩ y).cell? ⟨w.heap.size+1,1,none⟩=some mq)∧Ext w ((X.setCell ⟨w.heap.size+1+1,0,none⟩ x).setCell ⟨w.heap.size+1+1,1,none⟩ y):=by
 obtain ⟨⟨h0,h1,h2,h3,h4⟩,hx⟩:=h
 have hc:∀ a:Addr,a.block≠w.heap.size+1+1→((X.setCell ⟨w.heap.size+1+1,0,none⟩ x).setCell ⟨w.heap.size+1+1,1,none⟩ y).cell? a=X.cell? a:=fun a ha=>by
  rw [World.cell?_setCell_other _ _ _ _ (fun e=>ha (by rw [← e])),World.cell?_setCell_other _ _ _ _ (fun e=>ha (by rw [← e]))]
 refine ⟨⟨by simpa using h0,?_,?_,?_,?_⟩,hx.jS (by omega) _ _⟩
 · rw [hc _ (by show w.heap.size≠_;omega)];exact h1
 · rw [hc _ (by show w.heap.size≠_;omega)];exact h2
 · rw [hc _ (by show w.heap.size+1≠_;omega)];exact h3
 · rw [hc _ (by show w.heap.size+1≠_;omega)];exact h4
theorem Xy {w X Y:World} {p q:Bool} {mp mq:Value} (h:(w.heap.size+1<X.heap.size∧X.cell? ⟨w.heap.size,0,none⟩=some (.bool p)∧X.cell? ⟨w.heap.size,1,none⟩=some mp∧X.cell? ⟨w.heap.size+1,0,none⟩=some (.bool q)∧X.cell? ⟨w.heap.size+1,1,none⟩=some mq)∧Ext w X) (k:Ext X Y):(w.heap.size+1<Y.heap.size∧Y.cell? ⟨w.heap.size,0,none⟩=some (.bool p)∧Y.cell? ⟨w.heap.size,1,none⟩=some mp∧Y.cell? ⟨w.heap.size+1,0,none⟩=some (.bool q)∧Y.cell? ⟨w.heap.size+1,1,none⟩=some mq)∧Ext w Y:=by
 obtain ⟨⟨h0,h1,h2,h3,h4⟩,hx⟩:=h
 have hs:=k.size
 exact ⟨⟨by omega,(k.cell (p:=⟨w.heap.size,0,none⟩) (by show w.heap.size<_;omega)).trans h1,(k.cell (p:=⟨w.heap.size,1,none⟩) (by show w.heap.size<_;omega)).trans h2,(k.cell (p:=⟨w.heap.size+1,0,none⟩) (by show w.heap.size+1<_;omega)).trans h3,(k.cell (p:=⟨w.heap.size+1,1,none⟩) (by show w.heap.size+1<_;omega)).trans h4⟩,hx.below k⟩
end Go.Proofs.YtnilonnkcbkdmaaGreatDoor
/- Whole numbers: their order. -/
namespace Go.Proofs.YtnilonnkcbkdmaaGreatDoor
open Go.RowKit
set_option linter.unusedVariables false
set_option maxHeartbeats 400000
set_option maxRecDepth 100000 in
theorem or2 (w:World) (g:Nat) (x y:Int) (h0:w.cell? ⟨g,0,none⟩=some (.int .i64 x)) (h1:w.cell? ⟨g,1,none⟩=some (.int .i64 y)) (r:Int) (hr:(if x=0 then y else x)=r) :
  Calls Tryz.prog 144 #[.slice (some ⟨g,0,none⟩) 2 2] w fun e w'=>e = .returned (.int .i64 r)∧Ext w w':=by
 go_enter Tryz.func144,Tryz.ntmps144
 go_wp2
 go_loopw [8] (fun t wr=>(t = .int .i64 0∨(t = .int .i64 1∧x=0)∨(t = .int .i64 2∧x=0∧y=0))∧wr=w) (fun t _=>2-(intOf t).toNat)
 case atStart=>exact ⟨.inl rfl,rfl⟩
 case round =>
  obtain ⟨rfl | ⟨rfl,hx⟩ | ⟨rfl,hx,hy⟩,rfl⟩:=hrel
  · by_cases hx:x=0
    · have q1:(x != 0)=false:=by rw [bne_eq_false_iff_eq];exact hx
      have HX:=Lib.hid hx
      clear hr hx
      go_wp2
      go_roundw
      case rel=>exact ⟨.inr (.inl ⟨rfl,HX.out⟩),by trivial⟩
      case measure=>simp [intOf]
    · have q1:(x != 0)=true:=by rw [bne_iff_ne];exact hx
      rw [if_neg hx] at hr
      have HR:=Lib.hid hr
      clear hr hx
      go_wp2
      go_ret
      exact ⟨by first | (rw [HR.out];done) | (rw [HR.out];rfl),Ext.refl _⟩
  · rw [if_pos hx] at hr
    have HR:=Lib.hid hr
    have HX:=Lib.hid hx
    clear hr hx
    by_cases hy:y=0
    · have q1:(y != 0)=false:=by rw [bne_eq_false_iff_eq];exact hy
      have HY:=Lib.hid hy
      clear hy
      go_wp2
      go_roundw
      case rel=>exact ⟨.inr (.inr ⟨rfl,HX.out,HY.out⟩),by trivial⟩
      case measure=>simp [intOf]
    · have q1:(y != 0)=true:=by rw [bne_iff_ne];exact hy
      clear hy
      go_wp2
      go_ret
      exact ⟨by first | (rw [HR.out];done) | (rw [HR.out];rfl),Ext.refl _⟩
  · rw [if_pos hx,hy] at hr
    have HR:=Lib.hid hr
    clear hr hx hy
    go_wp2
    go_ret
    exact ⟨by rw [← HR.out];first | done | rfl,Ext.refl _⟩
theorem afZ (a b:Int):(if bQ (Int.sign a) (Int.sign b)=0 then Int.sign a*bQ (a.natAbs:Int) (b.natAbs:Int) else bQ (Int.sign a) (Int.sign b))=bQ a b:=by
 have hs:∀ z:Int,(z<0∧Int.sign z = -1)∨(z=0∧Int.sign z=0)∨(0<z∧Int.sign z=1):=fun z=>by
  rcases Int.lt_trichotomy z 0 with h | h | h
  · exact .inl ⟨h,Int.sign_eq_neg_one_of_neg h⟩
  · subst h;exact .inr (.inl ⟨rfl,rfl⟩)
  · exact .inr (.inr ⟨h,Int.sign_eq_one_of_pos h⟩)
 rcases hs a with ⟨h1,e1⟩ | ⟨h1,e1⟩ | ⟨h1,e1⟩<;>rcases hs b with ⟨h2,e2⟩ | ⟨h2,e2⟩ | ⟨h2,e2⟩<;>rw [e1,e2]<;>unfold bQ<;>simp<;>(repeat' split)<;>omega
theorem Q6 (x y:Int) : -1≤bQ x y∧bQ x y≤1:=by unfold bQ;split<;>(try split)<;>omega
theorem Q7 (x:Int):Int.sign x = -1∨Int.sign x=0∨Int.sign x=1:=by
 rcases Int.lt_trichotomy x 0 with h | h | h
 · exact .inl (Int.sign_eq_neg_one_of_neg h)
 · subst h;exact .inr (.inl rfl)
 · exact .inr (.inr (Int.sign_eq_one_of_pos h))
set_option maxRecDepth 100000 in
set_option maxHeartbeats 8000000 in
theorem azr (w:World) (va vb:Value) (a b:Int) (ha:Zn w va a) (hb:Zn w vb b) (k:Int) (hk:bQ a b=k) :
  Calls Tryz.prog 112 #[va,vb] w fun e w'=>e = .returned (.int .i64 k)∧Ext w w':=by
 have hcm:=afZ a b
 rw [hk] at hcm
 obtain ⟨sa,hsa⟩:∃ s,Int.sign a=s:=⟨_,rfl⟩
 obtain ⟨sb,hsb⟩:∃ s,Int.sign b=s:=⟨_,rfl⟩
 have hSa:=Lib.hid (fun W h=>Wn W va a h sa hsa)
 have hSb:=Lib.hid (fun W h=>Wn W vb b h sb hsb)
 have hb1:=Q7 a
 rw [hsa] at hb1
 have ha':=ha
 have hb':=hb
 obtain ⟨p,A,L,c,n,rfl,hu,hL,hz,-,hza,hzn⟩:=ha.open
 obtain ⟨q,B,K,d,m,rfl,hv,hK,hz2,-,xA,Fz⟩:=hb.open
 rw [hsa,hsb,hza,xA] at hcm
 obtain ⟨cm,aji⟩:∃ x,bQ (n:Int) (m:Int)=x:=⟨_,rfl⟩
 obtain ⟨cc,hcc⟩:∃ x,bQ sa sb=x:=⟨_,rfl⟩
 obtain ⟨pr,hpr⟩:∃ x,sa*cm=x:=⟨_,rfl⟩
 have hb2:=Q6 n m
 rw [aji] at hb2
 have aG7 : -1≤pr∧pr≤1:=by
  rcases hb1 with h | h | h<;>rw [h] at hpr<;>omega
 have hN:=Lib.hid (fun W (k:Ext w W)=>KO W (.slice A L c) (.slice B K d) n m (Un.below hu k) (Un.below hv k) cm aji)
 have hCp:=Lib.hid (fun W=>CW W sa sb)
 rw [hcc] at hCp
 rw [aji,hcc,hpr] at hcm
 have HO:=Lib.hid hcm
 have o1:sa*cm=pr:=hpr
 have o2:IntKind.i64.wrap pr=pr:=IntWalk.i64_in _ (by omega)
 have hE0:=(((Ext.refl w).alloc (.cells #[.bool p,.slice A L c] 27)).alloc (.cells #[.bool q,.slice B K d] 27)).drew
 have Dh:=(Ib.new w p (.slice A L c) 27).ext (((Ext.refl _).alloc (.cells #[.bool q,.slice B K d] 27)).drew)
 have qj:=(Ib.new2 w (.cells #[.bool p,.slice A L c] 27) q (.slice B K d) 27).ext ((Ext.refl _).drew)
 have hS0:(w.heap.size+1<((w.alloc (.cells #[.bool p,.slice A L c] 27)).alloc (.cells #[.bool q,.slice B K d] 27)).drew.heap.size∧((w.alloc (.cells #[.bool p,.slice A L c] 27)).alloc (.cells #[.bool q,.slice B K d] 27)).drew.cell? ⟨w.heap.size,0,none⟩=some (.bool p)∧((w.alloc (.cells #[.bool p,.slice A L c] 27)).alloc (.cells #[.bool q,.slice B K d] 27)).drew.cell? ⟨w.heap.size,1,none⟩=some (.slice A L c)∧((w.alloc (.cells #[.bool p,.slice A L c] 27)).alloc (.cells #[.bool q,.slice B K d] 27)).drew.cell? ⟨w.heap.size+1,0,none⟩=some (.bool q)∧((w.alloc (.cells #[.bool p,.slice A L c] 27)).alloc (.cells #[.bool q,.slice B K d] 27)).drew.cell? ⟨w.heap.size+1,1,none⟩=some (.slice B K d))∧Ext w ((w.alloc (.cells #[.bool p,.slice A L c] 27)).alloc (.cells #[.bool q,.slice B K d] 27)).drew:=⟨⟨by simp,Dh.2.1,Dh.2.2.1,qj.2.1,qj.2.2.1⟩,hE0⟩
 clear hb1 hb2 hcm hcc hpr aji hsa hsb hza hzn xA Fz hz hz2 hL hK hk Dh qj hE0
 go_enter Tryz.func112,Tryz.ntmps112
 go_wp2
 go_region_held3 (fun X=>(w.heap.size+1<X.heap.size∧X.cell? ⟨w.heap.size,0,none⟩=some (.bool p)∧X.cell? ⟨w.heap.size,1,none⟩=some (.slice A L c)∧X.cell? ⟨w.heap.size+1,0,none⟩=some (.bool q)∧X.cell? ⟨w.heap.size+1,1,none⟩=some (.slice B K d))∧Ext w X)
  (first
   | assumption
   | exact hS0
   | exact Xy (by assumption) (by assumption)
   | exact Xy (by assumption) ((Ext.refl _).alloc _))
  (first
   | (go_at_call 111;((with_reducible refine (hSa.out _ (ha'.below (by go_split_ands;assumption))).mono ?_);rintro e w2 ⟨rfl,hE2⟩))
   | (go_at_call 111;((with_reducible refine (hSb.out _ (hb'.below (by go_split_ands;assumption))).mono ?_);rintro e w3 ⟨rfl,pE⟩))
   | (go_at_call 104;((with_reducible refine (hCp.out _).mono ?_);rintro e w4 ⟨rfl,rfl⟩))
   | (go_at_call 80;((with_reducible refine (hN.out _ (by go_split_ands;assumption)).mono ?_);rintro e w5 ⟨rfl,zS⟩))
   | (go_at_call 144;(refine (or2 _ _ cc pr (by go_simp) (by go_simp) k HO.out).mono ?_);rintro e w6 ⟨rfl,AL⟩))
 go_wp2
 go_ret
 exact ⟨rfl,by go_split_ands;assumption⟩
end Go.Proofs.YtnilonnkcbkdmaaGreatDoor
