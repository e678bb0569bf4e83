/- Products by halves and by thirds, of limbs. -/
import Derived.Test.YtdpmbgomcjnohaaGreatDoorBan
import Derived.Test.YtdpmbgomcjnohaaGreatDoorBam

namespace Go.Proofs.YtdpmbgomcjnohaaGreatDoor
open Go.RowKit
set_option linter.unusedVariables false
set_option maxHeartbeats 400000
theorem K6 (N:Nat) (hN:N≤20000) (IH:IQ N):IQ (N+1):=by
 intro w q1 q2 va vb cZ bs na nb ha hb hna hnb hsum
 by_cases h:na<nb
 · refine (Dc N hN IH true w q2 q1 vb va bs cZ nb na hb ha hnb hna (by omega) (fun _=>h) (by omega)).mono ?_
   rintro e w' ⟨hp,hB⟩
   exact ⟨hp.turn (Nat.add_comm _ _) (Nat.mul_comm _ _),hB⟩
 · exact Dc N hN IH false w q1 q2 va vb cZ bs na nb ha hb hna hnb (by omega) (fun h=>by cases h) (by omega)
theorem tok:∀ N,N≤20001→IQ N
 | 0,_=>fun w q1 q2 va vb cZ bs na nb _ _ _ _ h=>by omega
 | N+1,h=>K6 N (by omega) (tok N (by omega))
theorem M6 (w:World) (q1 q2:Nat) (va vb:Value) (cZ bs:List Nat) (na nb:Nat) (ha:V q1 w va cZ) (hb:V q2 w vb bs) (hna:cZ.length=na) (hnb:bs.length=nb) (h:na+nb≤20000) :
 Calls Tryz.prog 156 #[Wh,va,vb] w fun e w'=>Prod w w' e na nb cZ bs∧Ext w w':=tok 20001 (Nat.le_refl _) w q1 q2 va vb cZ bs na nb ha hb hna hnb (by omega)
theorem tN (w:World):Calls Tryz.prog 155 #[] w fun e w'=>e = .returned Wh∧Ext w w':=by
 have hE:=(Ext.refl w).alloc (.cells #[.int .i64 40,.func (.func 166) #[] #[],.func (.func 152) #[] #[]] 145)
 go_enter Tryz.func155,Tryz.ntmps155
 go_wp2
 refine bodyPost_ret (v:=Wh) ?_ rfl ⟨rfl,hE⟩
 simp [results,Tryz.results155,go_sem, *]
abbrev Wt:Value:=.agg #[.int .i64 200,.func (.func 167) #[] #[],.func (.func 156) #[Wh] #[]]
theorem De (w:World):Calls Tryz.prog 157 #[] w fun e w'=>e = .returned Wt∧Ext w w':=by
 go_enter Tryz.func157,Tryz.ntmps157
 go_wp2_with (fail)
 refine (tN _).mono ?_
 rintro e w1 ⟨rfl,hB⟩
 have hlt:w.heap.size<(w.alloc (.cells #[.int .i64 0,.nilFunc,.nilFunc] 145)).heap.size:=by simp
 have hc0:w1.cell? ⟨w.heap.size,0,none⟩=some (.int .i64 0):=(hB.cell (p:=⟨w.heap.size,0,none⟩) hlt).trans (by go_simp)
 have hc1:w1.cell? ⟨w.heap.size,1,none⟩=some .nilFunc:=(hB.cell (p:=⟨w.heap.size,1,none⟩) hlt).trans (by go_simp)
 have hc2:w1.cell? ⟨w.heap.size,2,none⟩=some .nilFunc:=(hB.cell (p:=⟨w.heap.size,2,none⟩) hlt).trans (by go_simp)
 have hf0:w1.frozen? ⟨w.heap.size,0,none⟩=false:=(hB.frozen (p:=⟨w.heap.size,0,none⟩) hlt).trans (by go_simp)
 have hf1:w1.frozen? ⟨w.heap.size,1,none⟩=false:=(hB.frozen (p:=⟨w.heap.size,1,none⟩) hlt).trans (by go_simp)
 have hf2:w1.frozen? ⟨w.heap.size,2,none⟩=false:=(hB.frozen (p:=⟨w.heap.size,2,none⟩) hlt).trans (by go_simp)
 have hE:=((((Ext.refl w).alloc (.cells #[.int .i64 0,.nilFunc,.nilFunc] 145)).below hB).setCell (p:=⟨w.heap.size,0,none⟩) (Nat.le_refl _) (.int .i64 200)).setCell (p:=⟨w.heap.size,1,none⟩) (Nat.le_refl _) (.func (.func 167) #[] #[])
 have hE2:=hE.setCell (p:=⟨w.heap.size,2,none⟩) (Nat.le_refl _) (.func (.func 156) #[Wh] #[])
 clear hE hB
 go_wp2
 refine bodyPost_ret (v:=Wt) ?_ rfl ⟨rfl,hE2⟩
 simp [results,Tryz.results157,go_sem, *]
set_option maxRecDepth 100000 in
set_option maxHeartbeats 8000000 in
theorem zB (b:Bool) (w:World) (q1 q2:Nat) (vx vy:Value) (xs ys:List Nat) (nx ny:Nat) (hx:V q1 w vx xs) (hy:V q2 w vy ys) (hnx:xs.length=nx) (hny:ys.length=ny) (hle:ny≤nx) (hb:b=true→ny<nx) (hsum:nx+ny≤20000) (aeD:ny<200) :
  Calls Tryz.prog 156 #[Wt,(if b then vy else vx),(if b then vx else vy)] w fun e w'=>Prod w w' e nx ny xs ys∧Ext w w':=by
 obtain ⟨A,ca,rfl,hca⟩:=hx.shape
 obtain ⟨A2,cb,rfl,hcb⟩:=hy.shape
 rw [hnx] at hx hca ⊢
 rw [hny] at hy hcb ⊢
 have hE0:Ext w (w.alloc (.cells #[.int .i64 200,.func (.func 167) #[] #[],.func (.func 156) #[Wh] #[]] 145)):=(Ext.refl w).alloc _
 replace hx:=hx.below hE0
 replace hy:=hy.below hE0
 have HL:Hid (xs.length=nx∧ys.length=ny):=⟨hnx,hny⟩
 clear hnx hny
 have hd1:decide ((ny:Int)<200)=true:=by rw [decide_eq_true_iff];omega
 have hT:=Lib.hid (M6 _ q1 q2 _ _ xs ys nx ny hx hy HL.out.1 HL.out.2 hsum)
 cases b
 case' false =>
  show Calls Tryz.prog 156 #[Wt,.slice A nx ca,.slice A2 ny cb] w _
  have hd:decide ((nx:Int)<(ny:Int))=false:=by rw [decide_eq_false_iff_not];omega
  go_enter Tryz.func156,Tryz.ntmps156
 case' true =>
  show Calls Tryz.prog 156 #[Wt,.slice A2 ny cb,.slice A nx ca] w _
  have hlt:=hb rfl
  have hd:decide ((ny:Int)<(nx:Int))=true:=by rw [decide_eq_true_iff];omega
  go_enter Tryz.func156,Tryz.ntmps156
 all_goals
  go_wp2_with (fail)
  refine hT.out.mono ?_
  rintro e w2 ⟨hp,hB2⟩
  replace hp:=hp.base hE0
  have hE2:=hE0.below hB2
  have HP:=Lib.hid hp
  obtain ⟨g,c,o,rfl,_⟩:=hp
  clear hT
  go_wp2
  go_ret
  exact ⟨HP.out,hE2⟩
theorem SA (w:World) (q1 q2:Nat) (va vb:Value) (cZ bs:List Nat) (na nb:Nat) (ha:V q1 w va cZ) (hb:V q2 w vb bs) (hna:cZ.length=na) (hnb:bs.length=nb) (h:na+nb≤20000) (aeD:min na nb<200) :
  Calls Tryz.prog 156 #[Wt,va,vb] w fun e w'=>Prod w w' e na nb cZ bs∧Ext w w':=by
 by_cases hlt:na<nb
 · refine (zB true w q2 q1 vb va bs cZ nb na hb ha hnb hna (by omega) (fun _=>hlt) (by omega) (by omega)).mono ?_
   rintro e w' ⟨hp,hB⟩
   exact ⟨hp.turn (Nat.add_comm _ _) (Nat.mul_comm _ _),hB⟩
 · exact zB false w q1 q2 va vb cZ bs na nb ha hb hna hnb (by omega) (fun h=>by cases h) (by omega) (by omega)
set_option maxRecDepth 100000 in
set_option maxHeartbeats 2000000 in
theorem Jb (w:World) (va vb:Value) (xs ys:List Nat) (ha:U w va xs) (hb:U w vb ys) (hla:xs.length≤1000) (hlb:ys.length≤1000) :
  Calls Tryz.prog 138 #[va,vb] w fun e w'=>(∃ u,e = .returned u∧Un w' u (val xs*val ys))∧Ext w w':=by
 obtain ⟨na,hna⟩:∃ na,(xs.length+1)/2=na:=⟨_,rfl⟩
 obtain ⟨nb,hnb⟩:∃ nb,(ys.length+1)/2=nb:=⟨_,rfl⟩
 have We:=Lib.hid (And.intro (kM xs) (kM ys))
 have Wi:=Lib.hid (And.intro (nP xs ha.lim) (nP ys hb.lim))
 have hHL:Hid ((iJ xs).length=na∧(iJ ys).length=nb):=⟨by rw [jo,hna],by rw [jo,hnb]⟩
 have hPa:=Lib.hid (fun W h=>lX W va xs h (by omega) na hna)
 have hPb:=Lib.hid (fun W h=>lX W vb ys h (by omega) nb hnb)
 have aaZ:na≤501:=by omega
 have aa0:nb≤501:=by omega
 have hE:=Ext.refl w
 clear hna hnb
 go_enter Tryz.func138,Tryz.ntmps138
 go_wp2_with (fail)
 refine (tN _).mono ?_
 rintro e w1 ⟨rfl,hB⟩
 replace hE:=hE.below hB
 replace ha:=ha.below hB
 replace hb:=hb.below hB
 clear hB
 go_wp2_with (fail)
 refine (hPa.out _ ha).mono ?_
 rintro e w2 ⟨rfl,ho1,hB⟩
 replace hE:=hE.below hB
 replace hb:=hb.below hB
 clear hB ha
 go_wp2_with (fail)
 refine (hPb.out _ hb).mono ?_
 rintro e w3 ⟨rfl,ho2,hB⟩
 replace hE:=hE.below hB
 replace ho1:=ho1.ext hB
 clear hB hb
 go_wp2_with (fail)
 refine (M6 w3 (w1.heap.size+1) (w2.heap.size+1) _ _ _ _ na nb (ho1.Dr Wi.out.1 _ (by omega)) (ho2.Dr Wi.out.2 _ (by omega)) hHL.out.1 hHL.out.2 (by omega)).mono ?_
 rintro e w4 ⟨hp,hB⟩
 obtain ⟨g,c,o,rfl,ho,hv,hl,hlen⟩:=hp.open (na+nb) rfl
 replace hE:=hE.below hB
 clear hB ho1 ho2 hp
 go_wp2_with (fail)
 refine (qY w4 (g+1) _ o (ho.Dr hl _ (by omega)) (by omega)).mono ?_
 rintro e w5 ⟨⟨u,rfl,hu⟩,hB⟩
 rw [hv,We.out.1,We.out.2] at hu
 replace hE:=hE.below hB
 have HF:Hid (∃ u',Ending.returned u = .returned u'∧Un w5 u' (val xs*val ys)):=⟨_,rfl,hu⟩
 clear hB ho hu hv hl hlen
 go_wp2
 go_ret
 exact ⟨HF.out,hE⟩
set_option maxRecDepth 100000 in
set_option maxHeartbeats 2000000 in
theorem K7 (w:World) (va vb:Value) (xs ys:List Nat) (ha:U w va xs) (hb:U w vb ys) (hla:xs.length≤1000) (hlb:ys.length≤1000) (Yl:min xs.length ys.length≤398) :
  Calls Tryz.prog 139 #[va,vb] w fun e w'=>(∃ u,e = .returned u∧Un w' u (val xs*val ys))∧Ext w w':=by
 obtain ⟨na,hna⟩:∃ na,(xs.length+1)/2=na:=⟨_,rfl⟩
 obtain ⟨nb,hnb⟩:∃ nb,(ys.length+1)/2=nb:=⟨_,rfl⟩
 have We:=Lib.hid (And.intro (kM xs) (kM ys))
 have Wi:=Lib.hid (And.intro (nP xs ha.lim) (nP ys hb.lim))
 have hHL:Hid ((iJ xs).length=na∧(iJ ys).length=nb):=⟨by rw [jo,hna],by rw [jo,hnb]⟩
 have hPa:=Lib.hid (fun W h=>lX W va xs h (by omega) na hna)
 have hPb:=Lib.hid (fun W h=>lX W vb ys h (by omega) nb hnb)
 have aaZ:na≤501:=by omega
 have aa0:nb≤501:=by omega
 have hmin:min na nb<200:=by omega
 have hE:=Ext.refl w
 clear hna hnb
 go_enter Tryz.func139,Tryz.ntmps139
 go_wp2_with (fail)
 refine (De _).mono ?_
 rintro e w1 ⟨rfl,hB⟩
 replace hE:=hE.below hB
 replace ha:=ha.below hB
 replace hb:=hb.below hB
 clear hB
 go_wp2_with (fail)
 refine (hPa.out _ ha).mono ?_
 rintro e w2 ⟨rfl,ho1,hB⟩
 replace hE:=hE.below hB
 replace hb:=hb.below hB
 clear hB ha
 go_wp2_with (fail)
 refine (hPb.out _ hb).mono ?_
 rintro e w3 ⟨rfl,ho2,hB⟩
 replace hE:=hE.below hB
 replace ho1:=ho1.ext hB
 clear hB hb
 go_wp2_with (fail)
 refine (SA w3 (w1.heap.size+1) (w2.heap.size+1) _ _ _ _ na nb (ho1.Dr Wi.out.1 _ (by omega)) (ho2.Dr Wi.out.2 _ (by omega)) hHL.out.1 hHL.out.2 (by omega) (by omega)).mono ?_
 rintro e w4 ⟨hp,hB⟩
 obtain ⟨g,c,o,rfl,ho,hv,hl,hlen⟩:=hp.open (na+nb) rfl
 replace hE:=hE.below hB
 clear hB ho1 ho2 hp
 go_wp2_with (fail)
 refine (qY w4 (g+1) _ o (ho.Dr hl _ (by omega)) (by omega)).mono ?_
 rintro e w5 ⟨⟨u,rfl,hu⟩,hB⟩
 rw [hv,We.out.1,We.out.2] at hu
 replace hE:=hE.below hB
 have HF:Hid (∃ u',Ending.returned u = .returned u'∧Un w5 u' (val xs*val ys)):=⟨_,rfl,hu⟩
 clear hB ho hu hv hl hlen
 go_wp2
 go_ret
 exact ⟨HF.out,hE⟩
end Go.Proofs.YtdpmbgomcjnohaaGreatDoor
/- Products of limbs by school. -/
namespace Go.Proofs.YtdpmbgomcjnohaaGreatDoor
open Go.RowKit
set_option linter.unusedVariables false
set_option maxHeartbeats 400000
def LB:Nat:=4294967296
theorem pW (o:List Nat) (j x:Nat) (h:j<o.length):val (o.set j x)+LB^j*lb o j=val o+LB^j*x:=by
 rw [Nat.mul_comm (LB^j),Nat.mul_comm (LB^j)];exact qD o j x h
theorem gz (xs:List Nat) (i:Nat) (h:i<xs.length):val (xs.take (i+1))=val (xs.take i)+LB^i*lb xs i:=by
 rw [Nat.mul_comm];exact gV xs i h
theorem Oh (P S S' x y c d A v:Nat) (hset:S'+P*x=S+P*v) (hinv:S+P*c=A) (hd:x+y+c=v+LB*d):S'+P*LB*d=A+P*y:=by
 have h1:P*(x+y+c)=P*(v+LB*d):=by rw [hd]
 rw [Nat.mul_add,Nat.mul_add,Nat.mul_add,← Nat.mul_assoc] at h1
 omega
structure Pf (o0:List Nat) (n off:Nat) (A:Nat) (i:Nat) (o:List Nat) (cy:Nat):Prop where
 len:o.length=n
 lt:∀ x∈o,x<4294967296
 zT:cy<4294967296
 val:val o+LB^(off+i)*cy=A
 out:∀ m,off+i≤m→lb o m=lb o0 m
theorem Pf.step {o0:List Nat} {n off A i:Nat} {o:List Nat} {cy:Nat} (h:Pf o0 n off A i o cy) (hi:off+i<n) (t s d:Nat)
  (hs:lb o (off+i)+t+cy=s+LB*d) (hsb:s<4294967296) (hd:d<4294967296):Pf o0 n off (A+LB^(off+i)*t) (i+1) (o.set (off+i) s) d:=by
 refine ⟨by simp [h.len],dY h.lt hsb,hd,?_,fun m hm=>?_⟩
 · rw [← Nat.add_assoc,Nat.pow_succ]
   exact Oh _ _ _ _ _ _ _ _ _ (pW o (off+i) s (by rw [h.len];exact hi)) h.val hs
 · rw [bX _ (by omega)];exact h.out m (by omega)
structure Ov (cZ bs:List Nat) (n:Nat) (i:Nat) (o:List Nat):Prop where
 len:o.length=n
 lt:∀ x∈o,x<4294967296
 val:val o=val cZ*val (bs.take i)
 out:∀ m,i+cZ.length≤m→lb o m=0
theorem tY (t z cr s d u:Nat) (ht:t≤18446744065119617025) (hz:z<4294967296) (hc:cr<4294967296) (hu:cr+(t+z)=u) (hs:u%4294967296=s) (hd:u/4294967296=d) :
  z+t+cr=s+LB*d∧s<4294967296∧d<4294967296∧u<18446744073709551616∧t+z<18446744073709551616:=by
 unfold LB
 refine ⟨by omega,by omega,by omega,by omega,by omega⟩
set_option maxRecDepth 100000 in
set_option maxHeartbeats 8000000 in
theorem zC (b:Bool) (w:World) (vx vy:Value) (xs ys:List Nat) (nx ny:Nat) (hx:U w vx xs) (hy:U w vy ys) (hnx:xs.length=nx) (hny:ys.length=ny) (hle:ny≤nx) (hb:b=true→ny<nx) (h12:ny<12) (hn:nx≤1000) :
  Calls Tryz.prog 137 #[(if b then vy else vx),(if b then vx else vy)] w fun e w'=>(∃ u,e = .returned u∧Un w' u (val xs*val ys))∧Ext w w':=by
 obtain ⟨A,ca,rfl,⟨hca,hma⟩,hxl,Pb⟩:=id hx
 obtain ⟨A2,cb,rfl,⟨hcb,hmb⟩,hyl,Pd⟩:=id hy
 have HL:Hid (xs.length=nx∧ys.length=ny):=⟨hnx,hny⟩
 have WG:=Lib.hid (fun k=>gz xs k)
 have WH:=Lib.hid (fun k=>gz ys k)
 have HT2:Hid (xs.take nx=xs∧ys.take ny=ys):=⟨by rw [← hnx];exact List.take_length,by rw [← hny];exact List.take_length⟩
 rw [hnx] at hca hma Pb ⊢
 rw [hny] at hcb hmb Pd ⊢
 obtain ⟨n,hnn⟩:∃ n,nx+ny=n:=⟨_,rfl⟩
 have hni:(nx:Int)+(ny:Int)=(n:Int):=by omega
 have hm1:(if (ny:Int)<(nx:Int) then (ny:Int) else (nx:Int))=(ny:Int):=by split<;>omega
 have hm2:(if (nx:Int)<(ny:Int) then (nx:Int) else (ny:Int))=(ny:Int):=by split<;>omega
 have TK:(if ny<nx then (ny:Int) else (nx:Int))=(ny:Int):=by split<;>omega
 have Y8:(if nx<ny then (nx:Int) else (ny:Int))=(ny:Int):=by split<;>omega
 have aa1:decide ((12:Int)≤(ny:Int))=false:=by rw [decide_eq_false_iff_not];omega
 obtain ⟨i0,hi,hz0,hz1,hz2⟩:=info_parts qB
 obtain ⟨B,hB⟩:∃ B,w.heap.size=B:=⟨_,rfl⟩
 have Dl:=Lib.hid hB
 have hlt:b=true→ny<nx:=hb
 clear hx hy hnx hny hb
 cases b
 case' false =>
  show Calls Tryz.prog 137 #[.slice A nx ca,.slice A2 ny cb] w _
  have hd:decide ((nx:Int)<(ny:Int))=false:=by rw [decide_eq_false_iff_not];omega
  go_enter Tryz.func137,Tryz.ntmps137
  go_upto_region 5 with (fail)
 case' true =>
  show Calls Tryz.prog 137 #[.slice A2 ny cb,.slice A nx ca] w _
  have hlt':=hlt rfl
  have hd:decide ((ny:Int)<(nx:Int))=true:=by rw [decide_eq_true_iff];omega
  go_enter Tryz.func137,Tryz.ntmps137
  go_upto_region 5 with (fail)
 all_goals
  clear hd hm1 hm2 TK Y8 aa1 hlt
  go_wp2_with (at_make;refine wpList_make_full _ rfl _ _ 22 rfl w.heap.size 67 i0 (.int .u32 0) 1 Tryz.underlying22 hi hz0 hz1 _ _ _ _ n rfl rfl (by omega) (by omega) (by rw [hz2];omega) (by unfold maxLen;omega) (Nat.le_refl _) ?_;intro w1 hown hgrow)
  have ho0:Own w1 w.heap.size (.slice (some ⟨w.heap.size,0,none⟩) n n) (List.replicate n 0):=by
   have:=Own.zeros hown
   rwa [List.length_replicate] at this
  have hE0:Ext w w1:=(Ext.refl w).grown hgrow (Nat.le_refl _) (fun _ h=>by cases h)
  rw [hB] at ho0
  clear hown hgrow hi hz0 hz1 hz2 i0
  have hS0:Hid (Ov xs ys n 0 (List.replicate n 0)):=⟨by simp,fun x hx=>by simp at hx;omega,by simp [dG,val],fun m _=>gZ _ _⟩
  go_wp2
  go_loopw [39] (fun t wr=>∃ (i:Nat) (o:List Nat),i≤ny∧t = .int .i64 (i:Nat)∧Hid (Ov xs ys n i o)∧Own wr B (.slice (some ⟨B,0,none⟩) n n) o∧Ext w wr) (fun t _=>ny-(intOf t).toNat)
  case atStart=>exact ⟨0,_,Nat.zero_le _,rfl,hS0,ho0,hE0⟩
  case round =>
   clear hS0 ho0 hE0
   obtain ⟨i,o,hib,rfl,HO,hown,hE⟩:=hrel
   by_cases hlt:i<ny
   · obtain ⟨Jv,rfl,hb2,hcell2⟩:=Pd (by omega)
     obtain ⟨ad,rfl,hb1,hcell1⟩:=Pb (by omega)
     have hc0:=(hE.cell (p:=Jv.add i) (by rw [aF];exact hb2)).trans (hcell2 i hlt)
     have hyb:=cK hyl i
     have hty:=WH.out i (by rw [HL.out.2];exact hlt)
     obtain ⟨y,yZ⟩:∃ y,lb ys i=y:=⟨_,rfl⟩
     rw [yZ] at hc0 hyb hty
     have g1:i<n:=by omega
     have g2:(i:Int)<(n:Int):=by omega
     have g3:(i:Int)≤(i:Int)+(nx:Int):=by omega
     have g4:(i:Int)+(nx:Int)≤(n:Int):=by omega
     have g5:(0:Int)≤(i:Int):=by omega
     have g6:((i:Int)+(nx:Int)).toNat=i+nx:=by omega
     have g7:i+nx-i=nx:=by omega
     have g8:¬ (n=i):=by omega
     have g9:IntKind.i64.wrap ((i:Int)+(nx:Int))=(i:Int)+(nx:Int):=IntWalk.i64_in _ (by omega)
     have g10:(0:Int)≤(i:Int)+(nx:Int):=by omega
     go_wp2_with (fail)
     go_quiet (fail)
     go_wp2_with (fail)
     have Pe:Hid (Pf o n i (val o+LB^i*(val (xs.take 0)*y)) 0 o 0):=⟨HO.out.len,HO.out.lt,by decide,by simp [val],fun m _=>rfl⟩
     have hEd:Ext w (wr.drewN nq):=hE.below (jq _ _)
     have Wj:Own (wr.drewN nq) B (.slice (some ⟨B,0,none⟩) n n) o:=hown.ext (jq _ _)
     have AU:Hid (val (ys.take (i+1))=val (ys.take i)+LB^i*y):=hty
     have hno:Hid (lb o (i+nx)=0):=HO.out.out _ (by rw [HL.out.1];exact Nat.le_refl _)
     clear yZ hc0 hown hE hty
     go_loopw [53,8] (fun t s wx=>∃ (j:Nat) (o2:List Nat) (cy:Nat),j≤nx∧t = .int .i64 (j:Nat)∧s = .int .u64 (cy:Nat)∧Hid (Pf o n i (val o+LB^i*(val (xs.take j)*y)) j o2 cy)∧Own wx B (.slice (some ⟨B,0,none⟩) n n) o2∧Ext w wx) (fun t _ _=>nx-(intOf t).toNat)
     case atStart=>exact ⟨0,o,0,Nat.zero_le _,rfl,rfl,Pe,Wj,hEd⟩
     case round =>
      clear Pe Wj hEd
      obtain ⟨j,o2,cy,hj,rfl,rfl,HW,hown,hE⟩:=hrel
      by_cases hjt:j<nx
      · have hc1:=(hE.cell (p:=ad.add j) (by rw [aF];exact hb1)).trans (hcell1 j hjt)
        have hxb:=cK hxl j
        have htk:=WG.out j (by rw [HL.out.1];exact hjt)
        have hcz:=hown.rd.2 (i+j) (by rw [HW.out.len];omega)
        have hf:=hown.frozen' (i+j)
        have hzb:=cK HW.out.lt (i+j)
        have hcy:=HW.out.zT
        obtain ⟨x,wF⟩:∃ x,lb xs j=x:=⟨_,rfl⟩
        rw [wF] at hc1 hxb htk
        obtain ⟨z,hzz⟩:∃ z,lb o2 (i+j)=z:=⟨_,rfl⟩
        rw [hzz] at hcz hzb
        obtain ⟨t,ht⟩:∃ t,x*y=t:=⟨_,rfl⟩
        have ht1:t≤18446744065119617025:=by rw [← ht];exact LY hxb hyb
        have hti:(x:Int)*(y:Int)=(t:Int):=by rw [← ht,Int.natCast_mul]
        obtain ⟨u,hu⟩:∃ u,cy+(t+z)=u:=⟨_,rfl⟩
        obtain ⟨s,hs⟩:∃ s,u%4294967296=s:=⟨_,rfl⟩
        obtain ⟨d,hd⟩:∃ d,u/4294967296=d:=⟨_,rfl⟩
        obtain ⟨hm,hsb,hdb,hub,htz⟩:=tY t z cy s d u ht1 hzb hcy hu hs hd
        have hst:=HW.out.step (by omega) t s d (by rw [hzz];exact hm) hsb hdb
        rw [Nat.add_assoc (val o),Nat.pow_add,Nat.mul_assoc,← Nat.mul_add,← ht,← Nat.mul_assoc,← Nat.add_mul,← htk] at hst
        have HST:=Lib.hid hst
        have hown2:=hown.set' (i+j) s
        have hE2:=hE.setCell (p:=⟨B,i+j,none⟩) (by rw [Dl.out];exact Nat.le_refl _) (.int .u32 (s:Nat))
        have q1:IntKind.u64.wrap (t:Int)=(t:Int):=by rw [IntKind.wrap_u64];omega
        have q2:IntKind.u64.wrap ((t:Int)+(z:Int))=(t:Int)+(z:Int):=by rw [IntKind.wrap_u64];omega
        have q3:(cy:Int)+((t:Int)+(z:Int))=(u:Int):=by omega
        have q4:IntKind.u64.wrap (u:Int)=(u:Int):=by rw [IntKind.wrap_u64];omega
        have q5:IntKind.u32.wrap (u:Int)=(s:Int):=by rw [IntKind.wrap_u32];omega
        have q6:(u:Int)%4294967296=(s:Int):=by omega
        have q7:(u:Int)/4294967296=(d:Int):=by omega
        have q8:IntKind.u64.wrap (x:Int)=(x:Int):=by rw [IntKind.wrap_u64];omega
        have q9:IntKind.u64.wrap (y:Int)=(y:Int):=by rw [IntKind.wrap_u64];omega
        have q10:IntKind.u64.wrap (z:Int)=(z:Int):=by rw [IntKind.wrap_u64];omega
        have q11:(u:Int)%18446744073709551616=(u:Int):=by omega
        have q12:(t:Int)%18446744073709551616=(t:Int):=by omega
        have q13:((t:Int)+(z:Int))%18446744073709551616=(t:Int)+(z:Int):=by omega
        have hbn:(ad.add j).block≠B:=by rw [aF];have:=Dl.out;omega
        clear hst htk wF hzz ht hu hs hd hm hown hE HW hxb hzb ht1 hcy
        go_wp2
        go_roundw
        case rel=>exact ⟨j+1,_,d,by omega,by go_num,rfl,HST,hown2,hE2⟩
        case measure=>simp [intOf];omega
      · obtain rfl:j=nx:=by omega
        have hcz:=hown.rd.2 (i+j) (by rw [HW.out.len];omega)
        have hf:=hown.frozen' (i+j)
        have hl0:lb o2 (i+j)=0:=by rw [HW.out.out _ (Nat.le_refl _)];exact hno.out
        have hws:=pW o2 (i+j) cy (by rw [HW.out.len];omega)
        rw [hl0,Nat.mul_zero,Nat.add_zero,HW.out.val,HT2.out.1] at hws
        have wN:(Value.int .u32 (lb o2 (i+j):Nat)) = .int .u32 0:=by rw [hl0];rfl
        rw [wN] at hcz
        have AX:=HW.out.zT
        have q5:IntKind.u32.wrap (cy:Int)=(cy:Int):=by rw [IntKind.wrap_u32];omega
        have q6:(cy:Int)%4294967296=(cy:Int):=by omega
        have hown2:=hown.set' (i+j) cy
        have hE2:=hE.setCell (p:=⟨B,i+j,none⟩) (by rw [Dl.out];exact Nat.le_refl _) (.int .u32 (cy:Nat))
        have HST:Hid (Ov xs ys n (i+1) (o2.set (i+j) cy)):=by
         refine ⟨by rw [List.length_set];exact HW.out.len,dY HW.out.lt AX,?_,fun m hm=>?_⟩
         · rw [hws,AU.out,Nat.mul_add,← HO.out.val,Nat.mul_left_comm]
         · rw [HL.out.1] at hm
           rw [bX _ (by omega),HW.out.out _ (by omega)]
           exact HO.out.out m (by rw [HL.out.1];omega)
        have g12:(i:Int)+(j:Int)<(n:Int):=by omega
        have g13:i+j<n:=by omega
        clear hl0 hws wN hown hE HW AX AU hno
        go_wp2
        go_roundw
        case rel=>exact ⟨i+1,_,by omega,by go_num,HST,hown2,hE2⟩
        case measure=>simp [intOf];omega
   · obtain rfl:i=ny:=by omega
     have hu:=hown.xX HO.out.lt (by rw [HO.out.len];omega)
     have hvv:=HO.out.val
     rw [HT2.out.2] at hvv
     have HV:=Lib.hid hvv
     clear hown HO hvv
     go_wp2_with (fail)
     refine (xO _ _ _ hu).mono ?_
     rintro e w2 ⟨⟨u,rfl,hu2⟩,rfl⟩
     rw [HV.out] at hu2
     have HF:Hid (∃ u',Ending.returned u = .returned u'∧Un wr u' (val xs*val ys)):=⟨_,rfl,hu2⟩
     clear hu2 hu
     go_wp2
     go_ret
     exact ⟨HF.out,hE⟩
end Go.Proofs.YtdpmbgomcjnohaaGreatDoor
/- Products by school; sums of products, carried. -/
namespace Go.Proofs.YtdpmbgomcjnohaaGreatDoor
open Go.RowKit
set_option linter.unusedVariables false
set_option maxHeartbeats 400000
set_option maxRecDepth 100000 in
set_option maxHeartbeats 2000000 in
theorem K8 (w:World) (va vb:Value) (xs ys:List Nat) (ha:U w va xs) (hb:U w vb ys) (hla:xs.length≤1000) (hlb:ys.length≤1000) (h12:12≤min xs.length ys.length) :
  Calls Tryz.prog 137 #[va,vb] w fun e w'=>(∃ u,e = .returned u∧Un w' u (val xs*val ys))∧Ext w w':=by
 obtain ⟨A,ca,rfl,hca⟩:=ha.shape
 obtain ⟨A2,cb,rfl,hcb⟩:=hb.shape
 obtain ⟨na,hna⟩:∃ na,(xs.length+1)/2=na:=⟨_,rfl⟩
 obtain ⟨nb,hnb⟩:∃ nb,(ys.length+1)/2=nb:=⟨_,rfl⟩
 have We:=Lib.hid (And.intro (kM xs) (kM ys))
 have Wi:=Lib.hid (And.intro (nP xs ha.lim) (nP ys hb.lim))
 have hHL:Hid ((iJ xs).length=na∧(iJ ys).length=nb):=⟨by rw [jo,hna],by rw [jo,hnb]⟩
 have hPa:=Lib.hid (fun W h=>lX W (.slice A xs.length ca) xs h (by omega) na hna)
 have hPb:=Lib.hid (fun W h=>lX W (.slice A2 ys.length cb) ys h (by omega) nb hnb)
 have aaZ:na≤501:=by omega
 have aa0:nb≤501:=by omega
 generalize xs.length=lx at *
 generalize ys.length=ly at *
 obtain ⟨m,hm⟩:∃ m,min lx ly=m:=⟨_,rfl⟩
 have hm1:(if (ly:Int)<(lx:Int) then (ly:Int) else (lx:Int))=(m:Int):=by split<;>omega
 have TK:(if ly<lx then (ly:Int) else (lx:Int))=(m:Int):=by split<;>omega
 have aa1:decide ((12:Int)≤(m:Int))=true:=by rw [decide_eq_true_iff];omega
 have hE:=Ext.refl w
 clear hna hnb h12 hm
 go_enter Tryz.func137,Tryz.ntmps137
 go_wp2_with (fail)
 refine (hPa.out _ ha).mono ?_
 rintro e w2 ⟨rfl,ho1,hB⟩
 replace hE:=hE.below hB
 replace hb:=hb.below hB
 clear hB ha
 go_wp2_with (fail)
 refine (hPb.out _ hb).mono ?_
 rintro e w3 ⟨rfl,ho2,hB⟩
 replace hE:=hE.below hB
 replace ho1:=ho1.ext hB
 clear hB hb
 go_wp2_with (fail)
 refine (Da w3 (w.heap.size+1) (w2.heap.size+1) _ _ _ _ (ho1.Dr Wi.out.1 _ (by omega)) (ho2.Dr Wi.out.2 _ (by omega)) na nb hHL.out.1 hHL.out.2 (by omega)).mono ?_
 rintro e w4 ⟨hp,hB⟩
 obtain ⟨g,c,o,rfl,ho,hv,hl,hlen⟩:=hp.open (na+nb) rfl
 replace hE:=hE.below hB
 clear hB ho1 ho2 hp
 go_wp2_with (fail)
 refine (qY w4 (g+1) _ o (ho.Dr hl _ (by omega)) (by omega)).mono ?_
 rintro e w5 ⟨⟨u,rfl,hu⟩,hB⟩
 rw [hv,We.out.1,We.out.2] at hu
 replace hE:=hE.below hB
 have HF:Hid (∃ u',Ending.returned u = .returned u'∧Un w5 u' (val xs*val ys)):=⟨_,rfl,hu⟩
 clear hB ho hu hv hl hlen
 go_wp2
 go_ret
 exact ⟨HF.out,hE⟩
theorem Gb (w:World) (va vb:Value) (xs ys:List Nat) (ha:U w va xs) (hb:U w vb ys) (hla:xs.length≤1000) (hlb:ys.length≤1000) :
  Calls Tryz.prog 137 #[va,vb] w fun e w'=>(∃ u,e = .returned u∧Un w' u (val xs*val ys))∧Ext w w':=by
 by_cases h:12≤min xs.length ys.length
 · exact K8 w va vb xs ys ha hb hla hlb h
 · by_cases hlt:xs.length<ys.length
   · have:=zC true w vb va ys xs _ _ hb ha rfl rfl (by omega) (fun _=>hlt) (by omega) hlb
     rw [Nat.mul_comm (val ys)] at this
     exact this
   · exact zC false w va vb xs ys _ _ ha hb rfl rfl (by omega) (fun h=>by cases h) (by omega) hla
end Go.Proofs.YtdpmbgomcjnohaaGreatDoor
/- Sums of products, carried. -/
namespace Go.Proofs.YtdpmbgomcjnohaaGreatDoor
open Go.RowKit
set_option linter.unusedVariables false
set_option maxHeartbeats 400000
def cval:List Nat→Nat
 | []=>0
 | x::xs=>x+LB*cval xs
theorem Jc (xs ys:List Nat):cval (xs++ys)=cval xs+LB^xs.length*cval ys:=by
 induction xs with
 | nil=>simp [cval]
 | cons x xs ih =>
  simp only [List.cons_append,cval,ih,List.length_cons,Nat.pow_succ]
  rw [Nat.mul_add,Nat.add_assoc]
  congr 2
  rw [← Nat.mul_assoc,Nat.mul_comm LB]
theorem Df (xs:List Nat) (k:Nat) (h:k<xs.length):cval (xs.take (k+1))=cval (xs.take k)+LB^k*lb xs k:=by
 have e:xs.take (k+1)=xs.take k++[lb xs k]:=by
  rw [List.take_add_one,List.getElem?_eq_getElem h]
  unfold lb
  rw [List.getElem?_eq_getElem h];rfl
 rw [e,Jc,List.length_take,Nat.min_eq_left (by omega)]
 simp [cval]
structure CaI (cs:List Nat) (n k:Nat) (o:List Nat) (T:Nat):Prop where
 len:o.length=n
 lt:∀ x∈o,x<4294967296
 val:val o+LB^k*T=cval (cs.take k)
 out:∀ m,k≤m→lb o m=0
 tb:T<36893488147419103232
theorem CaI.step {cs:List Nat} {n k:Nat} {o:List Nat} {T:Nat} (h:CaI cs n k o T) (hk:k<n) (hkc:k<cs.length) (S:Nat) (hS:lb cs k=S) (hSb:S<79228162514264337593543950336) (z T':Nat) (hz:(T+S)%4294967296=z) (hT:(T+S)/4294967296=T') :
  CaI cs n (k+1) (o.set k z) T':=by
 have hb:=h.tb
 refine ⟨by simp [h.len],dY h.lt (by omega),?_,fun m hm=>by rw [bX _ (by omega)];exact h.out m (by omega),by omega⟩
 have hset:=pW o k z (by rw [h.len];exact hk)
 rw [h.out k (Nat.le_refl _),Nat.mul_zero,Nat.add_zero] at hset
 rw [Df _ _ hkc,hS,hset,← h.val,Nat.pow_succ,Nat.mul_assoc,Nat.add_assoc,← Nat.mul_add,Nat.add_assoc,← Nat.mul_add]
 congr 2
 unfold LB
 omega
end Go.Proofs.YtdpmbgomcjnohaaGreatDoor
/- Products by whichever way; powers. -/
namespace Go.Proofs.YtdpmbgomcjnohaaGreatDoor
open Go.RowKit
set_option linter.unusedVariables false
set_option maxHeartbeats 400000
theorem JG (w:World) (va vb:Value) (xs ys:List Nat) (ha:U w va xs) (hb:U w vb ys) (hla:xs.length≤1000) (hlb:ys.length≤1000) (Yl:min xs.length ys.length≤398) :
  Calls Tryz.prog 115 #[va,vb] w fun e w'=>(∃ u,e = .returned u∧Un w' u (val xs*val ys))∧Ext w w':=by
 obtain ⟨A,ca,rfl,hca⟩:=ha.shape
 obtain ⟨A2,cb,rfl,hcb⟩:=hb.shape
 have hSc:=Lib.hid (Gb w _ _ xs ys ha hb hla hlb)
 have hKa:=Lib.hid (Jb w _ _ xs ys ha hb hla hlb)
 have hTo:=Lib.hid (K7 w _ _ xs ys ha hb hla hlb Yl)
 generalize xs.length=lx at *
 generalize ys.length=ly at *
 obtain ⟨m,hm⟩:∃ m,min lx ly=m:=⟨_,rfl⟩
 have hm1:(if (ly:Int)<(lx:Int) then (ly:Int) else (lx:Int))=(m:Int):=by split<;>omega
 have TK:(if ly<lx then (ly:Int) else (lx:Int))=(m:Int):=by split<;>omega
 obtain ⟨q,hq⟩:∃ q,(m+1)/2=q:=⟨_,rfl⟩
 have hqi:((m:Int)+1)/2=(q:Int):=by omega
 have agw:q<200:=by omega
 clear ha hb hm hq Yl
 by_cases h40:q<40
 · have hd:decide ((q:Int)<40)=true:=by rw [decide_eq_true_iff];omega
   go_enter Tryz.func115,Tryz.ntmps115
   go_wp2_with (fail)
   refine hSc.out.mono ?_
   rintro e w1 ⟨⟨u,rfl,hu⟩,hB⟩
   have HF:Hid (∃ u',Ending.returned u = .returned u'∧Un w1 u' (val xs*val ys)):=⟨_,rfl,hu⟩
   clear hu
   go_wp2
   go_ret
   exact ⟨HF.out,hB⟩
 · have hd:decide ((q:Int)<40)=false:=by rw [decide_eq_false_iff_not];omega
   have hd2:decide ((q:Int)<200)=true:=by rw [decide_eq_true_iff];omega
   go_enter Tryz.func115,Tryz.ntmps115
   go_wp2_with (fail)
   refine hKa.out.mono ?_
   rintro e w1 ⟨⟨u,rfl,hu⟩,hB⟩
   have HF:Hid (∃ u',Ending.returned u = .returned u'∧Un w1 u' (val xs*val ys)):=⟨_,rfl,hu⟩
   clear hu
   go_wp2
   go_ret
   exact ⟨HF.out,hB⟩
theorem iO {n k:Nat} (h:n<LB^k):(limbs n).length≤k:=je h
theorem U.fM {w:World} {v:Value} {n:Nat} (h:Un w v n):U w v (limbs n):=h
end Go.Proofs.YtdpmbgomcjnohaaGreatDoor
/- Quotient and rest, word by word. -/
namespace Go.Proofs.YtdpmbgomcjnohaaGreatDoor
open Go.RowKit
set_option linter.unusedVariables false
set_option maxHeartbeats 400000
theorem JB (n:Nat):BB^n=2^(64*n):=by
 rw [Nat.pow_mul,show (2:Nat)^64=BB from by decide]
theorem EJ (n:Nat):(4294967296:Nat)^n=2^(32*n):=by
 rw [Nat.pow_mul,show (2:Nat)^32=4294967296 from by decide]
theorem Vx (n:Nat):BB^n=4294967296^(2*n):=by
 rw [JB,EJ];congr 1;omega
theorem JC (b L n sh V:Nat) (hL:(limbs b).length=L) (h2:2≤L) (hn:(L+1)/2=n) (hsh:64*n-fK b=sh) (hV:b*2^sh=V) :
  fK b≤64*n∧sh≤64∧V<BB^n∧9223372036854775808*BB^(n-1)≤V∧(limbs V).length≤2*n:=by
 have h1:fK b≤32*L:=by rw [← hL];exact y9 b
 have h3:4294967296^(L-1)≤b:=wJ (by omega)
 rw [EJ] at h3
 have h4:=jQ h3
 have hb0:b≠0:=by
  intro e
  rw [e,aX] at hL
  simp at hL;omega
 have h5:=mo b
 have h6:=rP hb0
 have h7:V<BB^n:=by
  rw [← hV,JB,show 64*n=fK b+sh by omega,Nat.pow_add]
  exact Nat.mul_lt_mul_of_pos_right h5 (Nat.two_pow_pos _)
 refine ⟨by omega,by omega,h7,?_,je (by rw [← Vx];exact h7)⟩
 have h8:2^(fK b-1)*2^sh≤V:=by rw [← hV];exact Nat.mul_le_mul_right _ h6
 rw [← Nat.pow_add,show fK b-1+sh=63+64*(n-1) by omega,Nat.pow_add,← JB,show (2:Nat)^63=9223372036854775808 from by decide] at h8
 exact h8
theorem JD (A lA n m:Nat) (hA:(limbs A).length=lA) (hm:max ((lA+1)/2) n+1=m):A<BB^(m-1):=by
 have h1:=jw A
 rw [hA] at h1
 refine Nat.lt_of_lt_of_le h1 ?_
 rw [Vx]
 exact Nat.pow_le_pow_right (by decide) (by omega)
theorem Nn (vs:List Nat) (k V:Nat) (hl:vs.length=k+1) (hx:∀ x∈vs,x<18446744073709551616) (hv:aU vs=V) (h:9223372036854775808*BB^k≤V):9223372036854775808≤lb vs k:=by
 have h1:=qA vs k hl hx
 rw [hv,Nat.mul_comm] at h1
 have h2:9223372036854775808*BB^k<(lb vs k+1)*BB^k:=by omega
 have:=Nat.lt_of_mul_lt_mul_right h2
 omega
set_option maxRecDepth 100000 in
set_option maxHeartbeats 8000000 in
theorem GI (w:World) (va vb:Value) (a b q r:Nat) (ha:Un w va a) (hb:Un w vb b) (hla:(limbs a).length≤1000) (hlb:(limbs b).length≤1000) (h2:2≤(limbs b).length) (hq:a/b=q) (hr:a%b=r) :
  Calls Tryz.prog 180 #[va,vb] w fun e w'=>(∃ x y,e = .returned (.tuple #[x,y])∧Un w' x q∧Un w' y r)∧Ext w w':=by
 obtain ⟨L,hL⟩:∃ L,(limbs b).length=L:=⟨_,rfl⟩
 obtain ⟨n,hn⟩:∃ n,(L+1)/2=n:=⟨_,rfl⟩
 obtain ⟨bl,hbl⟩:∃ bl,fK b=bl:=⟨_,rfl⟩
 obtain ⟨sh,hsh⟩:∃ sh,64*n-bl=sh:=⟨_,rfl⟩
 obtain ⟨V0,hV⟩:∃ V0,b*2^sh=V0:=⟨_,rfl⟩
 obtain ⟨A0,hA⟩:∃ A0,a*2^sh=A0:=⟨_,rfl⟩
 rw [hL] at hlb h2
 obtain ⟨m1,m2,m3,m4,m5⟩:=JC b L n sh V0 hL h2 hn (by rw [hbl];exact hsh) hV
 rw [hbl] at m1
 obtain ⟨lA,hlA⟩:∃ lA,(limbs A0).length=lA:=⟨_,rfl⟩
 have abN:lA≤1002:=by rw [← hlA,← hA];exact Nat.le_trans (DY a 1000 sh 2 hla (by omega)) (by omega)
 obtain ⟨h,hh⟩:∃ h,(lA+1)/2=h:=⟨_,rfl⟩
 obtain ⟨mx,hmx⟩:∃ mx,max h n=mx:=⟨_,rfl⟩
 obtain ⟨m,hm⟩:∃ m,mx+1=m:=⟨_,rfl⟩
 have YV:=JD A0 lA n m hlA (by rw [hh,hmx];exact hm)
 obtain ⟨k,hk⟩:∃ k,m-n=k:=⟨_,rfl⟩
 have hkm:k+n=m:=by omega
 have hk1:1≤k:=by omega
 have hn1:1≤n:=by omega
 have hnb:n≤501:=by omega
 have hmb:m≤503:=by omega
 obtain ⟨n1,OY⟩:∃ n1,n=n1+1:=⟨n-1,by omega⟩
 have DZ:=Lib.hid (WB w vb b hb (by omega) (bl:Int) (by rw [hbl]))
 have YW:=Lib.hid (fun W v (h:Un W v b)=>OZ W v b (sh:Int) h (Int.natCast_nonneg _) (by omega) (by omega) V0 (by rw [Int.toNat_natCast];exact hV))
 have YX:=Lib.hid (fun W v (h:Un W v a)=>OZ W v a (sh:Int) h (Int.natCast_nonneg _) (by omega) (by omega) A0 (by rw [Int.toNat_natCast];exact hA))
 have HPv:=Lib.hid (fun W v (h:Un W v V0)=>y5 W v (limbs V0) h (by omega) n (by omega) (by omega))
 have HPa:=Lib.hid (fun W v (h:Un W v A0)=>y5 W v (limbs A0) h (by omega) m (by rw [hlA];omega) (by omega))
 have YY:Hid (∀ vs:List Nat,vs.length=n→(∀ x∈vs,x<18446744073709551616)→aU vs=V0→9223372036854775808≤lb vs n1):=fun vs e1 e2 e3=>Nn vs n1 V0 (by omega) e2 e3 (by rw [show n1=n-1 by omega];exact m4)
 have YZ:Hid (∀ o:List Nat,o.length=m→(∀ x∈o,x<18446744073709551616)→aU o=A0→Ni V0 A0 n m k o (List.replicate k 0)):=fun o e1 e2 e3=>Ni.start V0 A0 n m o k hkm (by omega) e1 e2 e3 YV (Nat.le_trans (Nat.le_mul_of_pos_left _ (by decide)) m4)
 have HLT:=Lib.hid m3
 obtain ⟨R0,hR0⟩:∃ R0,r*2^sh=R0:=⟨_,rfl⟩
 have SS:Hid (∀ o ql,Ni V0 A0 n m 0 o ql→aU ql=q∧aU (o.take n)=R0):=fun o ql h=>by
  obtain ⟨d1,d2⟩:=h.done m3 (by omega)
  rw [← hA,← hV,Nat.mul_div_mul_right _ _ (Nat.two_pow_pos sh),hq] at d1
  rw [← hA,← hV,Nat.mul_mod_mul_right,hr,hR0] at d2
  exact ⟨d1.symm,d2⟩
 have hrb:(limbs R0).length≤1002:=by
  rw [← hR0]
  refine Nat.le_trans (DY r 1000 sh 2 ?_ (by omega)) (by omega)
  exact Nat.le_trans (fC (by rw [← hr];exact Nat.mod_le _ _)) hla
 have Y0:=Lib.hid (fun W v (h:Un W v R0)=>O0 W v R0 (sh:Int) h (Int.natCast_nonneg _) (by omega) (by omega) r (by rw [Int.toNat_natCast,← hR0];exact Nat.mul_div_cancel _ (Nat.two_pow_pos sh)))
 have TD:=Lib.hid (And.intro OY (And.intro hkm (And.intro hk1 (And.intro hn1 (And.intro hnb hmb)))))
 have e1:((L:Int)+1)/2=(n:Int):=by omega
 have e2:((L:Int)+1).tdiv 2=(n:Int):=by rw [Int.tdiv_eq_ediv_of_nonneg (by omega)];exact e1
 have e3:(64:Int)*(n:Int)-(bl:Int)=(sh:Int):=by omega
 have e4:((lA:Int)+1)/2=(h:Int):=by omega
 have e5:((lA:Int)+1).tdiv 2=(h:Int):=by rw [Int.tdiv_eq_ediv_of_nonneg (by omega)];exact e4
 have e6:(if (h:Int)<(n:Int) then (n:Int) else (h:Int))=(mx:Int):=by split<;>omega
 have e7:(if h<n then (n:Int) else (h:Int))=(mx:Int):=by split<;>omega
 have e8:(mx:Int)+1=(m:Int):=by omega
 have e9:(m:Int)-(n:Int)=(k:Int):=by omega
 have HBD:=Lib.hid (And.intro hlb (And.intro abN (show bl≤64*501 by omega)))
 obtain ⟨Ab,cb,rfl,hcb⟩:=hb.shape
 rw [hL] at DZ
 have hb':Un w (.slice Ab (limbs b).length cb) b:=hb
 rw [hL] at hb' ⊢
 have HLA:=Lib.hid hlA
 have uL:=Ext.refl w
 clear hb hL hn hbl hsh hV hA hlA hh hmx hm hk m1 m3 m4 m5 YV hq hr hR0 OY hkm hk1 hn1 hcb
 go_enter Tryz.func180,Tryz.ntmps180
 go_wp2_with (fail)
 refine DZ.out.mono ?_
 rintro e w1 ⟨rfl,hB⟩
 replace hb':=U.below (U.fM hb') hB
 replace ha:=U.below (U.fM ha) hB
 replace uL:=uL.below hB
 clear hB DZ
 go_wp2_with (fail)
 refine (YW.out _ _ hb').mono ?_
 rintro e w2 ⟨v2,rfl,hv2,hB⟩
 replace ha:=U.below (U.fM ha) hB
 replace uL:=uL.below hB
 clear hB YW hb'
 go_wp2_with (fail)
 have hs2:=uL.size
 refine (HPv.out _ _ hv2).mono ?_
 rintro e w3 ⟨rfl,⟨vs,hov,hwv,hxv,hlv⟩,hB⟩
 rw [aH] at hwv
 replace hov:=hov.nI hs2
 replace ha:=U.below (U.fM ha) hB
 replace uL:=uL.below hB
 clear hB HPv hv2
 generalize w2.heap.size=gv at *
 go_wp2_with (fail)
 refine (YX.out _ _ ha).mono ?_
 rintro e w4 ⟨va4,rfl,hva,hB⟩
 replace hov:=hov.ext hB
 replace uL:=uL.below hB
 clear hB YX ha
 obtain ⟨Aa,ca,rfl,hca⟩:=U.shape (U.fM hva)
 rw [HLA.out] at hva ⊢
 go_wp2_with (fail)
 have hs4:=uL.size
 have hvb:=hov.block
 refine (HPa.out _ _ hva).mono ?_
 rintro e w5 ⟨rfl,⟨o,hoa,hwa,hxa,hlo⟩,hB⟩
 rw [aH] at hwa
 have hne1:gv≠w4.heap.size:=by omega
 replace hoa:=hoa.nI hs4
 replace hov:=hov.ext hB
 replace uL:=uL.below hB
 clear hB HPa hva hca hvb
 generalize w4.heap.size=gu at *
 have hST:=YZ.out o hlo hxa hwa
 have HSS:=Lib.hid hST
 have htop:=YY.out vs hlv hxv hwv
 have hs5:=uL.size
 have hub:=hoa.block
 have hvb:=hov.block
 have hne2:gu≠w5.heap.size:=by omega
 have ahi:gv≠w5.heap.size:=by omega
 obtain ⟨i0,hi,hz0,hz1,hz2⟩:=info_parts rO
 have hkb:k≤503:=by have:=TD.out;omega
 have hmb:m≤503:=by have:=TD.out;omega
 have hnb:n≤501:=by have:=TD.out;omega
 have HTP:=Lib.hid htop
 have HWV:=Lib.hid hwv
 have YO:=Lib.hid hxv
 clear hST htop hwv hxv hwa hxa YZ YY
 go_wp2_with (at_make;refine wpList_make_full _ rfl _ _ 139 rfl w5.heap.size 100 i0 (.int .u64 0) 1 Tryz.underlying139 hi hz0 hz1 _ _ _ _ k rfl rfl (by omega) (by omega) (by rw [hz2];omega) (by unfold maxLen;omega) (Nat.le_refl _) ?_;intro w6 hown hgrow)
 have hoq:=Ow.zeros hown
 have bO:Ext w5 w6:=(Ext.refl w5).grown hgrow (Nat.le_refl _) (fun _ h=>by cases h)
 replace hoq:=hoq.nI hs5
 replace hoa:=hoa.ext bO
 replace hov:=hov.ext bO
 replace uL:=uL.below bO
 generalize w5.heap.size=gq at *
 have hgu:=hoa.block.1
 clear hown hgrow hi hz0 hz1 hz2 i0 bO hub hvb hs2 hs4 hs5
 go_wp2
 go_loopw [11] (fun t wr=>∃ (j:Nat) (z:Int) (o ql:List Nat),j≤k∧t = .int .i64 z∧z=(j:Int)-1∧Hid (Ni V0 A0 n m j o ql)∧Ow wr w.heap.size (.slice (some ⟨gu,0,none⟩) m m) o∧Ow wr w.heap.size (.slice (some ⟨gq,0,none⟩) k k) ql∧Ow wr w.heap.size (.slice (some ⟨gv,0,none⟩) n n) vs∧Ext w wr) (fun t _=>(intOf t+1).toNat)
 case atStart=>exact ⟨k,_,_,_,Nat.le_refl _,rfl,rfl,HSS,hoa,hoq,hov,uL⟩
 case round =>
  clear hoa hoq hov uL HSS
  obtain ⟨j,z,o,ql,hj,rfl,hz,HO,hoa,hoq,hov,hE⟩:=hrel
  cases j with
  | zero =>
   obtain rfl:z = -1:=by omega
   obtain ⟨d1,d2⟩:=SS.out o ql HO.out
   have hq0:=hoq.Dr HO.out.xq (gq+1) (by omega)
   have hlq:ql.length≤1000000:=by have:=HO.out.lq;omega
   have hu0:=(hoa.Dr HO.out.xo (gu+1) (by omega)).take (k:=n) (c':=m) (by have:=TD.out;omega) (by have:=TD.out;omega)
   have hun:(o.take n).length≤1000000:=by rw [List.length_take];omega
   have HU1:=Lib.hid (uK _ _ _ _ (V.below hq0 ((Ext.refl wr).drew)) hlq q d1)
   have HU2:=Lib.hid (fun W (h:V (gu+1) W (.slice (some ⟨gu,0,none⟩) n m) (o.take n))=>uK W _ _ _ h hun R0 d2)
   have hu1:=V.below hu0 ((Ext.refl wr).drew)
   have b1:(n:Int)≤(m:Int):=by have:=TD.out;omega
   have b2:n≤m:=by have:=TD.out;omega
   have b3:(0:Int)≤(n:Int):=Int.natCast_nonneg n
   clear d1 d2 hq0 hlq hun hu0 hoa hoq hov HO SS hz HTP HWV YO TD
   go_wp2_with (fail)
   go_region_held3 (fun X=>True)
    (first
     | exact trivial)
    (first
     | (go_at_call 204;((with_reducible refine HU1.out.mono ?_);rintro e wa ⟨⟨x1,rfl,hx1⟩,hB1⟩;have hu2:=hu1.below hB1))
     | (go_at_call 204;((with_reducible refine (HU2.out _ hu2).mono ?_);rintro e wb ⟨⟨x2,rfl,hx2⟩,hB2⟩;have TC:=U.below (U.fM hx1) hB2))
     | (go_at_call 104;((with_reducible refine (Y0.out _ _ hx2).mono ?_);rintro e wc ⟨x3,rfl,hx3,hB3⟩;have Y1:=U.below TC hB3)))
   have HF:Hid (∃ x y,Ending.returned (.tuple #[x1,x3]) = .returned (.tuple #[x,y])∧Un wc x q∧Un wc y r):=⟨_,_,rfl,Y1,hx3⟩
   have TE:=((hE.drew.below hB1).below hB2).below hB3
   clear hx1 hx2 hx3 TC Y1 hB1 hB2 hB3 hu1 hu2 HU1 HU2 Y0 hE
   go_wp2
   go_ret2
   exact ⟨HF.out,TE⟩
  | succ j =>
   obtain rfl:z=(j:Int):=by omega
   obtain ⟨OY,hkm,hk1,hn1,-,-⟩:=TD.out
   obtain ⟨p1,p2,p3,p4⟩:=LJ HO.out (by omega) HLT.out
   have Y2:Ow wr w.heap.size (.slice (some ⟨gu,0,none⟩) m m) (Sg (o.take j) ((o.drop j).take (n+1)) ((o.drop j).drop (n+1))):=by rw [← OM];exact hoa
   have hV0:V gu wr (.slice (some ⟨gv,0,none⟩) n n) vs:=hov.Dr YO.out gu hne1
   have Y3:=Lib.hid (GG wr gu w.heap.size m m j (m-j) _ _ _ vs _ Y2 (fun x hx=>HO.out.xo x (List.mem_of_mem_drop (List.mem_of_mem_take hx))) p4 n n1 OY p1 hlv (by omega) (by omega) hV0 HTP.out (by rw [HWV.out];exact p2))
   have i1:(j:Int)+(n:Int)+1≤(m:Int):=by omega
   have i2:(j:Int)≤(j:Int)+(n:Int)+1:=by omega
   have i3:j≤m:=by omega
   have i4:j+n+1-j=n+1:=by omega
   have i5:((j:Int)+(n:Int)+1).toNat=j+n+1:=by omega
   have i6:j<k:=by omega
   have i7:j+1+n≤m:=by omega
   clear OY hkm hk1 hn1 p1 p2 p3 p4 Y2 hV0 hoa hz
   go_wp2_with (fail)
   refine Y3.out.mono ?_
   rintro e w7 ⟨⟨d,s',rfl,hd,hsl,hsx,Vu,hdv,Y4⟩,hB⟩
   have HSN:Hid (Ni V0 A0 n m j (Sg (o.take j) s' ((o.drop j).drop (n+1))) (ql.set j d)):=HO.out.step i7 HLT.out d (aU s') s' hsl hsx hd (by rw [← HWV.out];exact Vu) rfl (by rw [← HWV.out];exact hdv)
   have hq2:=hoq.but hB (show gq≠gu by omega)
   have Y5:=hov.but hB (show gv≠gu by omega)
   have hf:=hq2.frozen j
   have hcz:=hq2.cell (j:=j) i6
   have hq3:=hq2.nO j d
   have TF:But gq w7 (w7.setCell ⟨gq,j,none⟩ (.int .u64 (d:Nat))):=(But.refl gq w7).setCell j _
   have abQ:=Y4.but TF (show gu≠gq by omega)
   have abR:=Y5.but TF (show gv≠gq by omega)
   have hgq:=hq2.block.1
   have aJ:=(hE.but hB hgu).setCell (p:=⟨gq,j,none⟩) hgq (.int .u64 (d:Nat))
   clear Y3 hsl hsx Vu hdv Y4 hB hq2 Y5 TF hoq hov hE HO hd
   go_wp2
   go_roundw
   case rel=>exact ⟨j,_,_,_,by omega,rfl,rfl,HSN,abQ,hq3,abR,aJ⟩
   case measure=>simp [intOf]
end Go.Proofs.YtdpmbgomcjnohaaGreatDoor
/- Powers; live questions. -/
namespace Go.Proofs.YtdpmbgomcjnohaaGreatDoor
open Go.RowKit
set_option linter.unusedVariables false
set_option maxHeartbeats 400000
theorem mD (x:Nat) (h0:x≠0) (h:x<4294967296):limbs x=[x]:=by
 rw [d9 h0,Nat.mod_eq_of_lt h,Nat.div_eq_of_lt h,aX]
end Go.Proofs.YtdpmbgomcjnohaaGreatDoor
/- Live questions, whose answers are fixed. -/
namespace Go.Proofs.YtdpmbgomcjnohaaGreatDoor
open Go.RowKit
set_option linter.unusedVariables false
set_option maxHeartbeats 400000
theorem TG (w:World) (N:Nat) (hN:w.heap.size=N) (x:Nat) (h0:x≠0) (h:x<4294967296):Un (w.alloc (.cells #[.int .u32 (x:Nat)] 67)) (.slice (some ⟨N,0,none⟩) 1 1) x:=by
 subst hN
 have:=LP w [x] (by simpa using h) (by simp)
 rw [Un,mD x h0 h]
 exact this
theorem abU {x:Nat} (h:x<4294967296):(limbs x).length≤398:=Nat.le_trans (iO (k:=1) (by unfold LB;omega)) (by decide)
end Go.Proofs.YtdpmbgomcjnohaaGreatDoor
