/- Products by halves and by thirds, of limbs. -/
import Derived.Test.YtnilonnkcbkdmaaGreatDoorBap

namespace Go.Proofs.YtnilonnkcbkdmaaGreatDoor
open Go.RowKit
set_option linter.unusedVariables false
set_option maxHeartbeats 400000
theorem UO (N:Nat) (hN:N≤20000) (IH:TOk N):TOk (N+1):=by
 intro w q1 q2 va vb dL bs na nb ha hb hna hnb hsum
 by_cases h:na<nb
 · refine (JP N hN IH true w q2 q1 vb va bs dL nb na hb ha hnb hna (by omega) (fun _=>h) (by omega)).mono ?_
   rintro e w' ⟨hp,hB⟩
   exact ⟨hp.turn (Nat.add_comm _ _) (Nat.mul_comm _ _),hB⟩
 · exact JP N hN IH false w q1 q2 va vb dL bs na nb ha hb hna hnb (by omega) (fun h=>by cases h) (by omega)
theorem tok:∀ N,N≤20001→TOk N
 | 0,_=>fun w q1 q2 va vb dL bs na nb _ _ _ _ h=>by omega
 | N+1,h=>UO N (by omega) (tok N (by omega))
theorem XN (w:World) (q1 q2:Nat) (va vb:Value) (dL bs:List Nat) (na nb:Nat) (ha:V q1 w va dL) (hb:V q2 w vb bs) (hna:dL.length=na) (hnb:bs.length=nb) (h:na+nb≤20000) :
 Calls Tryz.prog 130 #[Wh,va,vb] w fun e w'=>Prod w w' e na nb dL bs∧Ext w w':=tok 20001 (Nat.le_refl _) w q1 q2 va vb dL bs na nb ha hb hna hnb (by omega)
theorem yM (w:World):Calls Tryz.prog 129 #[] w fun e w'=>e = .returned Wh∧Ext w w':=by
 have hE:=(Ext.refl w).alloc (.cells #[.int .i64 40,.func (.func 157) #[] #[],.func (.func 126) #[] #[]] 136)
 go_enter Tryz.func129,Tryz.ntmps129
 go_wp2
 refine bodyPost_ret (v:=Wh) ?_ rfl ⟨rfl,hE⟩
 simp [results,Tryz.results129,go_sem, *]
abbrev Wt:Value:=.agg #[.int .i64 200,.func (.func 158) #[] #[],.func (.func 130) #[Wh] #[]]
theorem JQ (w:World):Calls Tryz.prog 131 #[] w fun e w'=>e = .returned Wt∧Ext w w':=by
 go_enter Tryz.func131,Tryz.ntmps131
 go_wp2_with (fail)
 refine (yM _).mono ?_
 rintro e w1 ⟨rfl,hB⟩
 have hlt:w.heap.size<(w.alloc (.cells #[.int .i64 0,.nilFunc,.nilFunc] 136)).heap.size:=by simp
 have hc0:w1.cell? ⟨w.heap.size,0,none⟩=some (.int .i64 0):=(hB.cell (p:=⟨w.heap.size,0,none⟩) hlt).trans (by go_simp)
 have hc1:w1.cell? ⟨w.heap.size,1,none⟩=some .nilFunc:=(hB.cell (p:=⟨w.heap.size,1,none⟩) hlt).trans (by go_simp)
 have hc2:w1.cell? ⟨w.heap.size,2,none⟩=some .nilFunc:=(hB.cell (p:=⟨w.heap.size,2,none⟩) hlt).trans (by go_simp)
 have hf0:w1.frozen? ⟨w.heap.size,0,none⟩=false:=(hB.frozen (p:=⟨w.heap.size,0,none⟩) hlt).trans (by go_simp)
 have hf1:w1.frozen? ⟨w.heap.size,1,none⟩=false:=(hB.frozen (p:=⟨w.heap.size,1,none⟩) hlt).trans (by go_simp)
 have hf2:w1.frozen? ⟨w.heap.size,2,none⟩=false:=(hB.frozen (p:=⟨w.heap.size,2,none⟩) hlt).trans (by go_simp)
 have hE:=((((Ext.refl w).alloc (.cells #[.int .i64 0,.nilFunc,.nilFunc] 136)).below hB).setCell (p:=⟨w.heap.size,0,none⟩) (Nat.le_refl _) (.int .i64 200)).setCell (p:=⟨w.heap.size,1,none⟩) (Nat.le_refl _) (.func (.func 158) #[] #[])
 have hE2:=hE.setCell (p:=⟨w.heap.size,2,none⟩) (Nat.le_refl _) (.func (.func 130) #[Wh] #[])
 clear hE hB
 go_wp2
 refine bodyPost_ret (v:=Wt) ?_ rfl ⟨rfl,hE2⟩
 simp [results,Tryz.results131,go_sem, *]
set_option maxRecDepth 100000 in
set_option maxHeartbeats 8000000 in
theorem EW (b:Bool) (w:World) (q1 q2:Nat) (vx vy:Value) (xs ys:List Nat) (nx ny:Nat) (hx:V q1 w vx xs) (hy:V q2 w vy ys) (hnx:xs.length=nx) (hny:ys.length=ny) (hle:ny≤nx) (hb:b=true→ny<nx) (hsum:nx+ny≤20000) (aBu:ny<200) :
  Calls Tryz.prog 130 #[Wt,(if b then vy else vx),(if b then vx else vy)] w fun e w'=>Prod w w' e nx ny xs ys∧Ext w w':=by
 obtain ⟨A,ca,rfl,hca⟩:=hx.shape
 obtain ⟨A2,cb,rfl,hcb⟩:=hy.shape
 rw [hnx] at hx hca ⊢
 rw [hny] at hy hcb ⊢
 have hE0:Ext w (w.alloc (.cells #[.int .i64 200,.func (.func 158) #[] #[],.func (.func 130) #[Wh] #[]] 136)):=(Ext.refl w).alloc _
 replace hx:=hx.below hE0
 replace hy:=hy.below hE0
 have HL:Hid (xs.length=nx∧ys.length=ny):=⟨hnx,hny⟩
 clear hnx hny
 have hd1:decide ((ny:Int)<200)=true:=by rw [decide_eq_true_iff];omega
 have hT:=Lib.hid (XN _ q1 q2 _ _ xs ys nx ny hx hy HL.out.1 HL.out.2 hsum)
 cases b
 case' false =>
  show Calls Tryz.prog 130 #[Wt,.slice A nx ca,.slice A2 ny cb] w _
  have hd:decide ((nx:Int)<(ny:Int))=false:=by rw [decide_eq_false_iff_not];omega
  go_enter Tryz.func130,Tryz.ntmps130
 case' true =>
  show Calls Tryz.prog 130 #[Wt,.slice A2 ny cb,.slice A nx ca] w _
  have hlt:=hb rfl
  have hd:decide ((ny:Int)<(nx:Int))=true:=by rw [decide_eq_true_iff];omega
  go_enter Tryz.func130,Tryz.ntmps130
 all_goals
  go_wp2_with (fail)
  refine hT.out.mono ?_
  rintro e w2 ⟨hp,hB2⟩
  replace hp:=hp.base hE0
  have hE2:=hE0.below hB2
  have HP:=Lib.hid hp
  obtain ⟨g,c,o,rfl,_⟩:=hp
  clear hT
  go_wp2
  go_ret
  exact ⟨HP.out,hE2⟩
theorem agI (w:World) (q1 q2:Nat) (va vb:Value) (dL bs:List Nat) (na nb:Nat) (ha:V q1 w va dL) (hb:V q2 w vb bs) (hna:dL.length=na) (hnb:bs.length=nb) (h:na+nb≤20000) (aBu:min na nb<200) :
  Calls Tryz.prog 130 #[Wt,va,vb] w fun e w'=>Prod w w' e na nb dL bs∧Ext w w':=by
 by_cases hlt:na<nb
 · refine (EW true w q2 q1 vb va bs dL nb na hb ha hnb hna (by omega) (fun _=>hlt) (by omega) (by omega)).mono ?_
   rintro e w' ⟨hp,hB⟩
   exact ⟨hp.turn (Nat.add_comm _ _) (Nat.mul_comm _ _),hB⟩
 · exact EW false w q1 q2 va vb dL bs na nb ha hb hna hnb (by omega) (fun h=>by cases h) (by omega) (by omega)
set_option maxRecDepth 100000 in
set_option maxHeartbeats 2000000 in
theorem Rm (w:World) (va vb:Value) (xs ys:List Nat) (ha:U w va xs) (hb:U w vb ys) (hla:xs.length≤1000) (hlb:ys.length≤1000) :
  Calls Tryz.prog 97 #[va,vb] w fun e w'=>(∃ u,e = .returned u∧Un w' u (val xs*val ys))∧Ext w w':=by
 obtain ⟨na,hna⟩:∃ na,(xs.length+1)/2=na:=⟨_,rfl⟩
 obtain ⟨nb,hnb⟩:∃ nb,(ys.length+1)/2=nb:=⟨_,rfl⟩
 have hHW:=Lib.hid (And.intro (nX xs) (nX ys))
 have hHP:=Lib.hid (And.intro (rQ xs ha.lim) (rQ ys hb.lim))
 have hHL:Hid ((j5 xs).length=na∧(j5 ys).length=nb):=⟨by rw [lG,hna],by rw [lG,hnb]⟩
 have hPa:=Lib.hid (fun W h=>p9 W va xs h (by omega) na hna)
 have hPb:=Lib.hid (fun W h=>p9 W vb ys h (by omega) nb hnb)
 have awp:na≤501:=by omega
 have awq:nb≤501:=by omega
 have hE:=Ext.refl w
 clear hna hnb
 go_enter Tryz.func97,Tryz.ntmps97
 go_wp2_with (fail)
 refine (yM _).mono ?_
 rintro e w1 ⟨rfl,hB⟩
 replace hE:=hE.below hB
 replace ha:=ha.below hB
 replace hb:=hb.below hB
 clear hB
 go_wp2_with (fail)
 refine (hPa.out _ ha).mono ?_
 rintro e w2 ⟨rfl,ho1,hB⟩
 replace hE:=hE.below hB
 replace hb:=hb.below hB
 clear hB ha
 go_wp2_with (fail)
 refine (hPb.out _ hb).mono ?_
 rintro e w3 ⟨rfl,ho2,hB⟩
 replace hE:=hE.below hB
 replace ho1:=ho1.ext hB
 clear hB hb
 go_wp2_with (fail)
 refine (XN w3 (w1.heap.size+1) (w2.heap.size+1) _ _ _ _ na nb (ho1.J5 hHP.out.1 _ (by omega)) (ho2.J5 hHP.out.2 _ (by omega)) hHL.out.1 hHL.out.2 (by omega)).mono ?_
 rintro e w4 ⟨hp,hB⟩
 obtain ⟨g,c,o,rfl,ho,hv,hl,hlen⟩:=hp.open (na+nb) rfl
 replace hE:=hE.below hB
 clear hB ho1 ho2 hp
 go_wp2_with (fail)
 refine (wI w4 (g+1) _ o (ho.J5 hl _ (by omega)) (by omega)).mono ?_
 rintro e w5 ⟨⟨u,rfl,hu⟩,hB⟩
 rw [hv,hHW.out.1,hHW.out.2] at hu
 replace hE:=hE.below hB
 have HF:Hid (∃ u',Ending.returned u = .returned u'∧Un w5 u' (val xs*val ys)):=⟨_,rfl,hu⟩
 clear hB ho hu hv hl hlen
 go_wp2
 go_ret
 exact ⟨HF.out,hE⟩
set_option maxRecDepth 100000 in
set_option maxHeartbeats 2000000 in
theorem UQ (w:World) (va vb:Value) (xs ys:List Nat) (ha:U w va xs) (hb:U w vb ys) (hla:xs.length≤1000) (hlb:ys.length≤1000) (apC:min xs.length ys.length≤398) :
  Calls Tryz.prog 98 #[va,vb] w fun e w'=>(∃ u,e = .returned u∧Un w' u (val xs*val ys))∧Ext w w':=by
 obtain ⟨na,hna⟩:∃ na,(xs.length+1)/2=na:=⟨_,rfl⟩
 obtain ⟨nb,hnb⟩:∃ nb,(ys.length+1)/2=nb:=⟨_,rfl⟩
 have hHW:=Lib.hid (And.intro (nX xs) (nX ys))
 have hHP:=Lib.hid (And.intro (rQ xs ha.lim) (rQ ys hb.lim))
 have hHL:Hid ((j5 xs).length=na∧(j5 ys).length=nb):=⟨by rw [lG,hna],by rw [lG,hnb]⟩
 have hPa:=Lib.hid (fun W h=>p9 W va xs h (by omega) na hna)
 have hPb:=Lib.hid (fun W h=>p9 W vb ys h (by omega) nb hnb)
 have awp:na≤501:=by omega
 have awq:nb≤501:=by omega
 have hmin:min na nb<200:=by omega
 have hE:=Ext.refl w
 clear hna hnb
 go_enter Tryz.func98,Tryz.ntmps98
 go_wp2_with (fail)
 refine (JQ _).mono ?_
 rintro e w1 ⟨rfl,hB⟩
 replace hE:=hE.below hB
 replace ha:=ha.below hB
 replace hb:=hb.below hB
 clear hB
 go_wp2_with (fail)
 refine (hPa.out _ ha).mono ?_
 rintro e w2 ⟨rfl,ho1,hB⟩
 replace hE:=hE.below hB
 replace hb:=hb.below hB
 clear hB ha
 go_wp2_with (fail)
 refine (hPb.out _ hb).mono ?_
 rintro e w3 ⟨rfl,ho2,hB⟩
 replace hE:=hE.below hB
 replace ho1:=ho1.ext hB
 clear hB hb
 go_wp2_with (fail)
 refine (agI w3 (w1.heap.size+1) (w2.heap.size+1) _ _ _ _ na nb (ho1.J5 hHP.out.1 _ (by omega)) (ho2.J5 hHP.out.2 _ (by omega)) hHL.out.1 hHL.out.2 (by omega) (by omega)).mono ?_
 rintro e w4 ⟨hp,hB⟩
 obtain ⟨g,c,o,rfl,ho,hv,hl,hlen⟩:=hp.open (na+nb) rfl
 replace hE:=hE.below hB
 clear hB ho1 ho2 hp
 go_wp2_with (fail)
 refine (wI w4 (g+1) _ o (ho.J5 hl _ (by omega)) (by omega)).mono ?_
 rintro e w5 ⟨⟨u,rfl,hu⟩,hB⟩
 rw [hv,hHW.out.1,hHW.out.2] at hu
 replace hE:=hE.below hB
 have HF:Hid (∃ u',Ending.returned u = .returned u'∧Un w5 u' (val xs*val ys)):=⟨_,rfl,hu⟩
 clear hB ho hu hv hl hlen
 go_wp2
 go_ret
 exact ⟨HF.out,hE⟩
end Go.Proofs.YtnilonnkcbkdmaaGreatDoor
/- Products of limbs by school. -/
namespace Go.Proofs.YtnilonnkcbkdmaaGreatDoor
open Go.RowKit
set_option linter.unusedVariables false
set_option maxHeartbeats 400000
def LB:Nat:=4294967296
theorem oV (o:List Nat) (j x:Nat) (h:j<o.length):val (o.set j x)+LB^j*lb o j=val o+LB^j*x:=by
 rw [Nat.mul_comm (LB^j),Nat.mul_comm (LB^j)];exact vS o j x h
theorem eT (xs:List Nat) (i:Nat) (h:i<xs.length):val (xs.take (i+1))=val (xs.take i)+LB^i*lb xs i:=by
 rw [Nat.mul_comm];exact nI xs i h
theorem aar (P S S' x y c d A v:Nat) (hset:S'+P*x=S+P*v) (hinv:S+P*c=A) (hd:x+y+c=v+LB*d):S'+P*LB*d=A+P*y:=by
 have h1:P*(x+y+c)=P*(v+LB*d):=by rw [hd]
 rw [Nat.mul_add,Nat.mul_add,Nat.mul_add,← Nat.mul_assoc] at h1
 omega
structure P9 (o0:List Nat) (n off:Nat) (A:Nat) (i:Nat) (o:List Nat) (cy:Nat):Prop where
 len:o.length=n
 lt:∀ x∈o,x<4294967296
 BC:cy<4294967296
 val:val o+LB^(off+i)*cy=A
 out:∀ m,off+i≤m→lb o m=lb o0 m
theorem P9.step {o0:List Nat} {n off A i:Nat} {o:List Nat} {cy:Nat} (h:P9 o0 n off A i o cy) (hi:off+i<n) (t s d:Nat)
  (hs:lb o (off+i)+t+cy=s+LB*d) (hsb:s<4294967296) (hd:d<4294967296):P9 o0 n off (A+LB^(off+i)*t) (i+1) (o.set (off+i) s) d:=by
 refine ⟨by simp [h.len],gm h.lt hsb,hd,?_,fun m hm=>?_⟩
 · rw [← Nat.add_assoc,Nat.pow_succ]
   exact aar _ _ _ _ _ _ _ _ _ (oV o (off+i) s (by rw [h.len];exact hi)) h.val hs
 · rw [dD _ (by omega)];exact h.out m (by omega)
structure Ku (dL bs:List Nat) (n:Nat) (i:Nat) (o:List Nat):Prop where
 len:o.length=n
 lt:∀ x∈o,x<4294967296
 val:val o=val dL*val (bs.take i)
 out:∀ m,i+dL.length≤m→lb o m=0
theorem pX (t z cr s d u:Nat) (ht:t≤18446744065119617025) (hz:z<4294967296) (hc:cr<4294967296) (hu:cr+(t+z)=u) (hs:u%4294967296=s) (hd:u/4294967296=d) :
  z+t+cr=s+LB*d∧s<4294967296∧d<4294967296∧u<18446744073709551616∧t+z<18446744073709551616:=by
 unfold LB
 refine ⟨by omega,by omega,by omega,by omega,by omega⟩
set_option maxRecDepth 100000 in
set_option maxHeartbeats 8000000 in
theorem EX (b:Bool) (w:World) (vx vy:Value) (xs ys:List Nat) (nx ny:Nat) (hx:U w vx xs) (hy:U w vy ys) (hnx:xs.length=nx) (hny:ys.length=ny) (hle:ny≤nx) (hb:b=true→ny<nx) (h12:ny<12) (hn:nx≤1000) :
  Calls Tryz.prog 96 #[(if b then vy else vx),(if b then vx else vy)] w fun e w'=>(∃ u,e = .returned u∧Un w' u (val xs*val ys))∧Ext w w':=by
 obtain ⟨A,ca,rfl,⟨hca,hma⟩,hxl,Lv⟩:=id hx
 obtain ⟨A2,cb,rfl,⟨hcb,hmb⟩,hyl,Lx⟩:=id hy
 have HL:Hid (xs.length=nx∧ys.length=ny):=⟨hnx,hny⟩
 have Zb:=Lib.hid (fun k=>eT xs k)
 have Zc:=Lib.hid (fun k=>eT ys k)
 have HT2:Hid (xs.take nx=xs∧ys.take ny=ys):=⟨by rw [← hnx];exact List.take_length,by rw [← hny];exact List.take_length⟩
 rw [hnx] at hca hma Lv ⊢
 rw [hny] at hcb hmb Lx ⊢
 obtain ⟨n,hnn⟩:∃ n,nx+ny=n:=⟨_,rfl⟩
 have hni:(nx:Int)+(ny:Int)=(n:Int):=by omega
 have hm1:(if (ny:Int)<(nx:Int) then (ny:Int) else (nx:Int))=(ny:Int):=by split<;>omega
 have hm2:(if (nx:Int)<(ny:Int) then (nx:Int) else (ny:Int))=(ny:Int):=by split<;>omega
 have OD:(if ny<nx then (ny:Int) else (nx:Int))=(ny:Int):=by split<;>omega
 have hm4:(if nx<ny then (nx:Int) else (ny:Int))=(ny:Int):=by split<;>omega
 have awr:decide ((12:Int)≤(ny:Int))=false:=by rw [decide_eq_false_iff_not];omega
 obtain ⟨i0,hi,hz0,hz1,hz2⟩:=info_parts iT
 obtain ⟨B,hB⟩:∃ B,w.heap.size=B:=⟨_,rfl⟩
 have pW:=Lib.hid hB
 have hlt:b=true→ny<nx:=hb
 clear hx hy hnx hny hb
 cases b
 case' false =>
  show Calls Tryz.prog 96 #[.slice A nx ca,.slice A2 ny cb] w _
  have hd:decide ((nx:Int)<(ny:Int))=false:=by rw [decide_eq_false_iff_not];omega
  go_enter Tryz.func96,Tryz.ntmps96
  go_upto_region 5 with (fail)
 case' true =>
  show Calls Tryz.prog 96 #[.slice A2 ny cb,.slice A nx ca] w _
  have hlt':=hlt rfl
  have hd:decide ((ny:Int)<(nx:Int))=true:=by rw [decide_eq_true_iff];omega
  go_enter Tryz.func96,Tryz.ntmps96
  go_upto_region 5 with (fail)
 all_goals
  clear hd hm1 hm2 OD hm4 awr hlt
  go_wp2_with (at_make;refine wpList_make_full _ rfl _ _ 22 rfl w.heap.size 43 i0 (.int .u32 0) 1 Tryz.underlying22 hi hz0 hz1 _ _ _ _ n rfl rfl (by omega) (by omega) (by rw [hz2];omega) (by unfold maxLen;omega) (Nat.le_refl _) ?_;intro w1 hown hgrow)
  have ho0:Own w1 w.heap.size (.slice (some ⟨w.heap.size,0,none⟩) n n) (List.replicate n 0):=by
   have:=Own.zeros hown
   rwa [List.length_replicate] at this
  have hE0:Ext w w1:=(Ext.refl w).grown hgrow (Nat.le_refl _) (fun _ h=>by cases h)
  rw [hB] at ho0
  clear hown hgrow hi hz0 hz1 hz2 i0
  have hS0:Hid (Ku xs ys n 0 (List.replicate n 0)):=⟨by simp,fun x hx=>by simp at hx;omega,by simp [bM,val],fun m _=>iR _ _⟩
  go_wp2
  go_loopw [39] (fun t wr=>∃ (i:Nat) (o:List Nat),i≤ny∧t = .int .i64 (i:Nat)∧Hid (Ku xs ys n i o)∧Own wr B (.slice (some ⟨B,0,none⟩) n n) o∧Ext w wr) (fun t _=>ny-(intOf t).toNat)
  case atStart=>exact ⟨0,_,Nat.zero_le _,rfl,hS0,ho0,hE0⟩
  case round =>
   clear hS0 ho0 hE0
   obtain ⟨i,o,hib,rfl,HO,hown,hE⟩:=hrel
   by_cases hlt:i<ny
   · obtain ⟨IB,rfl,hb2,hcell2⟩:=Lx (by omega)
     obtain ⟨ad,rfl,hb1,hcell1⟩:=Lv (by omega)
     have hc0:=(hE.cell (p:=IB.add i) (by rw [aM];exact hb2)).trans (hcell2 i hlt)
     have hyb:=aQ hyl i
     have hty:=Zc.out i (by rw [HL.out.2];exact hlt)
     obtain ⟨y,wN⟩:∃ y,lb ys i=y:=⟨_,rfl⟩
     rw [wN] at hc0 hyb hty
     have g1:i<n:=by omega
     have g2:(i:Int)<(n:Int):=by omega
     have g3:(i:Int)≤(i:Int)+(nx:Int):=by omega
     have g4:(i:Int)+(nx:Int)≤(n:Int):=by omega
     have g5:(0:Int)≤(i:Int):=by omega
     have g6:((i:Int)+(nx:Int)).toNat=i+nx:=by omega
     have g7:i+nx-i=nx:=by omega
     have g8:¬ (n=i):=by omega
     have g9:IntKind.i64.wrap ((i:Int)+(nx:Int))=(i:Int)+(nx:Int):=IntWalk.i64_in _ (by omega)
     have g10:(0:Int)≤(i:Int)+(nx:Int):=by omega
     go_wp2_with (fail)
     go_quiet (fail)
     go_wp2_with (fail)
     have LA:Hid (P9 o n i (val o+LB^i*(val (xs.take 0)*y)) 0 o 0):=⟨HO.out.len,HO.out.lt,by decide,by simp [val],fun m _=>rfl⟩
     have hEd:Ext w (wr.drewN nq):=hE.below (eU _ _)
     have ale:Own (wr.drewN nq) B (.slice (some ⟨B,0,none⟩) n n) o:=hown.ext (eU _ _)
     have vB:Hid (val (ys.take (i+1))=val (ys.take i)+LB^i*y):=hty
     have hno:Hid (lb o (i+nx)=0):=HO.out.out _ (by rw [HL.out.1];exact Nat.le_refl _)
     clear wN hc0 hown hE hty
     go_loopw [53,8] (fun t s wx=>∃ (j:Nat) (o2:List Nat) (cy:Nat),j≤nx∧t = .int .i64 (j:Nat)∧s = .int .u64 (cy:Nat)∧Hid (P9 o n i (val o+LB^i*(val (xs.take j)*y)) j o2 cy)∧Own wx B (.slice (some ⟨B,0,none⟩) n n) o2∧Ext w wx) (fun t _ _=>nx-(intOf t).toNat)
     case atStart=>exact ⟨0,o,0,Nat.zero_le _,rfl,rfl,LA,ale,hEd⟩
     case round =>
      clear LA ale hEd
      obtain ⟨j,o2,cy,hj,rfl,rfl,HW,hown,hE⟩:=hrel
      by_cases hjt:j<nx
      · have hc1:=(hE.cell (p:=ad.add j) (by rw [aM];exact hb1)).trans (hcell1 j hjt)
        have hxb:=aQ hxl j
        have htk:=Zb.out j (by rw [HL.out.1];exact hjt)
        have hcz:=hown.rd.2 (i+j) (by rw [HW.out.len];omega)
        have hf:=hown.frozen' (i+j)
        have hzb:=aQ HW.out.lt (i+j)
        have hcy:=HW.out.BC
        obtain ⟨x,wM⟩:∃ x,lb xs j=x:=⟨_,rfl⟩
        rw [wM] at hc1 hxb htk
        obtain ⟨z,hzz⟩:∃ z,lb o2 (i+j)=z:=⟨_,rfl⟩
        rw [hzz] at hcz hzb
        obtain ⟨t,ht⟩:∃ t,x*y=t:=⟨_,rfl⟩
        have ht1:t≤18446744065119617025:=by rw [← ht];exact IC hxb hyb
        have hti:(x:Int)*(y:Int)=(t:Int):=by rw [← ht,Int.natCast_mul]
        obtain ⟨u,hu⟩:∃ u,cy+(t+z)=u:=⟨_,rfl⟩
        obtain ⟨s,hs⟩:∃ s,u%4294967296=s:=⟨_,rfl⟩
        obtain ⟨d,hd⟩:∃ d,u/4294967296=d:=⟨_,rfl⟩
        obtain ⟨hm,hsb,hdb,hub,htz⟩:=pX t z cy s d u ht1 hzb hcy hu hs hd
        have hst:=HW.out.step (by omega) t s d (by rw [hzz];exact hm) hsb hdb
        rw [Nat.add_assoc (val o),Nat.pow_add,Nat.mul_assoc,← Nat.mul_add,← ht,← Nat.mul_assoc,← Nat.add_mul,← htk] at hst
        have HST:=Lib.hid hst
        have hown2:=hown.set' (i+j) s
        have hE2:=hE.setCell (p:=⟨B,i+j,none⟩) (by rw [pW.out];exact Nat.le_refl _) (.int .u32 (s:Nat))
        have q1:IntKind.u64.wrap (t:Int)=(t:Int):=by rw [IntKind.wrap_u64];omega
        have q2:IntKind.u64.wrap ((t:Int)+(z:Int))=(t:Int)+(z:Int):=by rw [IntKind.wrap_u64];omega
        have q3:(cy:Int)+((t:Int)+(z:Int))=(u:Int):=by omega
        have q4:IntKind.u64.wrap (u:Int)=(u:Int):=by rw [IntKind.wrap_u64];omega
        have q5:IntKind.u32.wrap (u:Int)=(s:Int):=by rw [IntKind.wrap_u32];omega
        have q6:(u:Int)%4294967296=(s:Int):=by omega
        have q7:(u:Int)/4294967296=(d:Int):=by omega
        have q8:IntKind.u64.wrap (x:Int)=(x:Int):=by rw [IntKind.wrap_u64];omega
        have q9:IntKind.u64.wrap (y:Int)=(y:Int):=by rw [IntKind.wrap_u64];omega
        have q10:IntKind.u64.wrap (z:Int)=(z:Int):=by rw [IntKind.wrap_u64];omega
        have q11:(u:Int)%18446744073709551616=(u:Int):=by omega
        have q12:(t:Int)%18446744073709551616=(t:Int):=by omega
        have q13:((t:Int)+(z:Int))%18446744073709551616=(t:Int)+(z:Int):=by omega
        have hbn:(ad.add j).block≠B:=by rw [aM];have:=pW.out;omega
        clear hst htk wM hzz ht hu hs hd hm hown hE HW hxb hzb ht1 hcy
        go_wp2
        go_roundw
        case rel=>exact ⟨j+1,_,d,by omega,by go_num,rfl,HST,hown2,hE2⟩
        case measure=>simp [intOf];omega
      · obtain rfl:j=nx:=by omega
        have hcz:=hown.rd.2 (i+j) (by rw [HW.out.len];omega)
        have hf:=hown.frozen' (i+j)
        have hl0:lb o2 (i+j)=0:=by rw [HW.out.out _ (Nat.le_refl _)];exact hno.out
        have hws:=oV o2 (i+j) cy (by rw [HW.out.len];omega)
        rw [hl0,Nat.mul_zero,Nat.add_zero,HW.out.val,HT2.out.1] at hws
        have sP:(Value.int .u32 (lb o2 (i+j):Nat)) = .int .u32 0:=by rw [hl0];rfl
        rw [sP] at hcz
        have vC:=HW.out.BC
        have q5:IntKind.u32.wrap (cy:Int)=(cy:Int):=by rw [IntKind.wrap_u32];omega
        have q6:(cy:Int)%4294967296=(cy:Int):=by omega
        have hown2:=hown.set' (i+j) cy
        have hE2:=hE.setCell (p:=⟨B,i+j,none⟩) (by rw [pW.out];exact Nat.le_refl _) (.int .u32 (cy:Nat))
        have HST:Hid (Ku xs ys n (i+1) (o2.set (i+j) cy)):=by
         refine ⟨by rw [List.length_set];exact HW.out.len,gm HW.out.lt vC,?_,fun m hm=>?_⟩
         · rw [hws,vB.out,Nat.mul_add,← HO.out.val,Nat.mul_left_comm]
         · rw [HL.out.1] at hm
           rw [dD _ (by omega),HW.out.out _ (by omega)]
           exact HO.out.out m (by rw [HL.out.1];omega)
        have g12:(i:Int)+(j:Int)<(n:Int):=by omega
        have g13:i+j<n:=by omega
        clear hl0 hws sP hown hE HW vC vB hno
        go_wp2
        go_roundw
        case rel=>exact ⟨i+1,_,by omega,by go_num,HST,hown2,hE2⟩
        case measure=>simp [intOf];omega
   · obtain rfl:i=ny:=by omega
     have hu:=hown.lW HO.out.lt (by rw [HO.out.len];omega)
     have hvv:=HO.out.val
     rw [HT2.out.2] at hvv
     have HV:=Lib.hid hvv
     clear hown HO hvv
     go_wp2_with (fail)
     refine (Dc _ _ _ hu).mono ?_
     rintro e w2 ⟨⟨u,rfl,hu2⟩,rfl⟩
     rw [HV.out] at hu2
     have HF:Hid (∃ u',Ending.returned u = .returned u'∧Un wr u' (val xs*val ys)):=⟨_,rfl,hu2⟩
     clear hu2 hu
     go_wp2
     go_ret
     exact ⟨HF.out,hE⟩
end Go.Proofs.YtnilonnkcbkdmaaGreatDoor
/- Products by school; sums of products, carried. -/
namespace Go.Proofs.YtnilonnkcbkdmaaGreatDoor
open Go.RowKit
set_option linter.unusedVariables false
set_option maxHeartbeats 400000
set_option maxRecDepth 100000 in
set_option maxHeartbeats 2000000 in
theorem UR (w:World) (va vb:Value) (xs ys:List Nat) (ha:U w va xs) (hb:U w vb ys) (hla:xs.length≤1000) (hlb:ys.length≤1000) (h12:12≤min xs.length ys.length) :
  Calls Tryz.prog 96 #[va,vb] w fun e w'=>(∃ u,e = .returned u∧Un w' u (val xs*val ys))∧Ext w w':=by
 obtain ⟨A,ca,rfl,hca⟩:=ha.shape
 obtain ⟨A2,cb,rfl,hcb⟩:=hb.shape
 obtain ⟨na,hna⟩:∃ na,(xs.length+1)/2=na:=⟨_,rfl⟩
 obtain ⟨nb,hnb⟩:∃ nb,(ys.length+1)/2=nb:=⟨_,rfl⟩
 have hHW:=Lib.hid (And.intro (nX xs) (nX ys))
 have hHP:=Lib.hid (And.intro (rQ xs ha.lim) (rQ ys hb.lim))
 have hHL:Hid ((j5 xs).length=na∧(j5 ys).length=nb):=⟨by rw [lG,hna],by rw [lG,hnb]⟩
 have hPa:=Lib.hid (fun W h=>p9 W (.slice A xs.length ca) xs h (by omega) na hna)
 have hPb:=Lib.hid (fun W h=>p9 W (.slice A2 ys.length cb) ys h (by omega) nb hnb)
 have awp:na≤501:=by omega
 have awq:nb≤501:=by omega
 generalize xs.length=lx at *
 generalize ys.length=ly at *
 obtain ⟨m,hm⟩:∃ m,min lx ly=m:=⟨_,rfl⟩
 have hm1:(if (ly:Int)<(lx:Int) then (ly:Int) else (lx:Int))=(m:Int):=by split<;>omega
 have OD:(if ly<lx then (ly:Int) else (lx:Int))=(m:Int):=by split<;>omega
 have awr:decide ((12:Int)≤(m:Int))=true:=by rw [decide_eq_true_iff];omega
 have hE:=Ext.refl w
 clear hna hnb h12 hm
 go_enter Tryz.func96,Tryz.ntmps96
 go_wp2_with (fail)
 refine (hPa.out _ ha).mono ?_
 rintro e w2 ⟨rfl,ho1,hB⟩
 replace hE:=hE.below hB
 replace hb:=hb.below hB
 clear hB ha
 go_wp2_with (fail)
 refine (hPb.out _ hb).mono ?_
 rintro e w3 ⟨rfl,ho2,hB⟩
 replace hE:=hE.below hB
 replace ho1:=ho1.ext hB
 clear hB hb
 go_wp2_with (fail)
 refine (JN w3 (w.heap.size+1) (w2.heap.size+1) _ _ _ _ (ho1.J5 hHP.out.1 _ (by omega)) (ho2.J5 hHP.out.2 _ (by omega)) na nb hHL.out.1 hHL.out.2 (by omega)).mono ?_
 rintro e w4 ⟨hp,hB⟩
 obtain ⟨g,c,o,rfl,ho,hv,hl,hlen⟩:=hp.open (na+nb) rfl
 replace hE:=hE.below hB
 clear hB ho1 ho2 hp
 go_wp2_with (fail)
 refine (wI w4 (g+1) _ o (ho.J5 hl _ (by omega)) (by omega)).mono ?_
 rintro e w5 ⟨⟨u,rfl,hu⟩,hB⟩
 rw [hv,hHW.out.1,hHW.out.2] at hu
 replace hE:=hE.below hB
 have HF:Hid (∃ u',Ending.returned u = .returned u'∧Un w5 u' (val xs*val ys)):=⟨_,rfl,hu⟩
 clear hB ho hu hv hl hlen
 go_wp2
 go_ret
 exact ⟨HF.out,hE⟩
theorem Ot (w:World) (va vb:Value) (xs ys:List Nat) (ha:U w va xs) (hb:U w vb ys) (hla:xs.length≤1000) (hlb:ys.length≤1000) :
  Calls Tryz.prog 96 #[va,vb] w fun e w'=>(∃ u,e = .returned u∧Un w' u (val xs*val ys))∧Ext w w':=by
 by_cases h:12≤min xs.length ys.length
 · exact UR w va vb xs ys ha hb hla hlb h
 · by_cases hlt:xs.length<ys.length
   · have:=EX true w vb va ys xs _ _ hb ha rfl rfl (by omega) (fun _=>hlt) (by omega) hlb
     rw [Nat.mul_comm (val ys)] at this
     exact this
   · exact EX false w va vb xs ys _ _ ha hb rfl rfl (by omega) (fun h=>by cases h) (by omega) hla
end Go.Proofs.YtnilonnkcbkdmaaGreatDoor
/- Sums of products, carried. -/
namespace Go.Proofs.YtnilonnkcbkdmaaGreatDoor
open Go.RowKit
set_option linter.unusedVariables false
set_option maxHeartbeats 400000
def cval:List Nat→Nat
 | []=>0
 | x::xs=>x+LB*cval xs
theorem Rn (xs ys:List Nat):cval (xs++ys)=cval xs+LB^xs.length*cval ys:=by
 induction xs with
 | nil=>simp [cval]
 | cons x xs ih =>
  simp only [List.cons_append,cval,ih,List.length_cons,Nat.pow_succ]
  rw [Nat.mul_add,Nat.add_assoc]
  congr 2
  rw [← Nat.mul_assoc,Nat.mul_comm LB]
theorem JR (xs:List Nat) (k:Nat) (h:k<xs.length):cval (xs.take (k+1))=cval (xs.take k)+LB^k*lb xs k:=by
 have e:xs.take (k+1)=xs.take k++[lb xs k]:=by
  rw [List.take_add_one,List.getElem?_eq_getElem h]
  unfold lb
  rw [List.getElem?_eq_getElem h];rfl
 rw [e,Rn,List.length_take,Nat.min_eq_left (by omega)]
 simp [cval]
structure CaI (cs:List Nat) (n k:Nat) (o:List Nat) (T:Nat):Prop where
 len:o.length=n
 lt:∀ x∈o,x<4294967296
 val:val o+LB^k*T=cval (cs.take k)
 out:∀ m,k≤m→lb o m=0
 tb:T<36893488147419103232
theorem CaI.step {cs:List Nat} {n k:Nat} {o:List Nat} {T:Nat} (h:CaI cs n k o T) (hk:k<n) (hkc:k<cs.length) (S:Nat) (hS:lb cs k=S) (hSb:S<79228162514264337593543950336) (z T':Nat) (hz:(T+S)%4294967296=z) (hT:(T+S)/4294967296=T') :
  CaI cs n (k+1) (o.set k z) T':=by
 have hb:=h.tb
 refine ⟨by simp [h.len],gm h.lt (by omega),?_,fun m hm=>by rw [dD _ (by omega)];exact h.out m (by omega),by omega⟩
 have hset:=oV o k z (by rw [h.len];exact hk)
 rw [h.out k (Nat.le_refl _),Nat.mul_zero,Nat.add_zero] at hset
 rw [JR _ _ hkc,hS,hset,← h.val,Nat.pow_succ,Nat.mul_assoc,Nat.add_assoc,← Nat.mul_add,Nat.add_assoc,← Nat.mul_add]
 congr 2
 unfold LB
 omega
end Go.Proofs.YtnilonnkcbkdmaaGreatDoor
/- Products by whichever way; powers. -/
namespace Go.Proofs.YtnilonnkcbkdmaaGreatDoor
open Go.RowKit
set_option linter.unusedVariables false
set_option maxHeartbeats 400000
theorem RY (w:World) (va vb:Value) (xs ys:List Nat) (ha:U w va xs) (hb:U w vb ys) (hla:xs.length≤1000) (hlb:ys.length≤1000) (apC:min xs.length ys.length≤398) :
  Calls Tryz.prog 63 #[va,vb] w fun e w'=>(∃ u,e = .returned u∧Un w' u (val xs*val ys))∧Ext w w':=by
 obtain ⟨A,ca,rfl,hca⟩:=ha.shape
 obtain ⟨A2,cb,rfl,hcb⟩:=hb.shape
 have hSc:=Lib.hid (Ot w _ _ xs ys ha hb hla hlb)
 have hKa:=Lib.hid (Rm w _ _ xs ys ha hb hla hlb)
 have hTo:=Lib.hid (UQ w _ _ xs ys ha hb hla hlb apC)
 generalize xs.length=lx at *
 generalize ys.length=ly at *
 obtain ⟨m,hm⟩:∃ m,min lx ly=m:=⟨_,rfl⟩
 have hm1:(if (ly:Int)<(lx:Int) then (ly:Int) else (lx:Int))=(m:Int):=by split<;>omega
 have OD:(if ly<lx then (ly:Int) else (lx:Int))=(m:Int):=by split<;>omega
 obtain ⟨q,hq⟩:∃ q,(m+1)/2=q:=⟨_,rfl⟩
 have hqi:((m:Int)+1)/2=(q:Int):=by omega
 have aEg:q<200:=by omega
 clear ha hb hm hq apC
 by_cases h40:q<40
 · have hd:decide ((q:Int)<40)=true:=by rw [decide_eq_true_iff];omega
   go_enter Tryz.func63,Tryz.ntmps63
   go_wp2_with (fail)
   refine hSc.out.mono ?_
   rintro e w1 ⟨⟨u,rfl,hu⟩,hB⟩
   have HF:Hid (∃ u',Ending.returned u = .returned u'∧Un w1 u' (val xs*val ys)):=⟨_,rfl,hu⟩
   clear hu
   go_wp2
   go_ret
   exact ⟨HF.out,hB⟩
 · have hd:decide ((q:Int)<40)=false:=by rw [decide_eq_false_iff_not];omega
   have hd2:decide ((q:Int)<200)=true:=by rw [decide_eq_true_iff];omega
   go_enter Tryz.func63,Tryz.ntmps63
   go_wp2_with (fail)
   refine hKa.out.mono ?_
   rintro e w1 ⟨⟨u,rfl,hu⟩,hB⟩
   have HF:Hid (∃ u',Ending.returned u = .returned u'∧Un w1 u' (val xs*val ys)):=⟨_,rfl,hu⟩
   clear hu
   go_wp2
   go_ret
   exact ⟨HF.out,hB⟩
theorem iA {n k:Nat} (h:n<LB^k):(limbs n).length≤k:=fM h
theorem U.aL {w:World} {v:Value} {n:Nat} (h:Un w v n):U w v (limbs n):=h
end Go.Proofs.YtnilonnkcbkdmaaGreatDoor
