/- Products by halves and by thirds, of limbs. -/
import Derived.Test.YtfhcmggpojhegaaGreatDoorBao

namespace Go.Proofs.YtfhcmggpojhegaaGreatDoor
open Go.RowKit
set_option linter.unusedVariables false
set_option maxHeartbeats 400000
theorem RV (N:Nat) (hN:N≤20000) (IH:TOk N):TOk (N+1):=by
 intro w q1 q2 va vb fA bs na nb ha hb hna hnb hsum
 by_cases h:na<nb
 · refine (IC N hN IH true w q2 q1 vb va bs fA nb na hb ha hnb hna (by omega) (fun _=>h) (by omega)).mono ?_
   rintro e w' ⟨hp,hB⟩
   exact ⟨hp.turn (Nat.add_comm _ _) (Nat.mul_comm _ _),hB⟩
 · exact IC N hN IH false w q1 q2 va vb fA bs na nb ha hb hna hnb (by omega) (fun h=>by cases h) (by omega)
theorem tok:∀ N,N≤20001→TOk N
 | 0,_=>fun w q1 q2 va vb fA bs na nb _ _ _ _ h=>by omega
 | N+1,h=>RV N (by omega) (tok N (by omega))
theorem U1 (w:World) (q1 q2:Nat) (va vb:Value) (fA bs:List Nat) (na nb:Nat) (ha:V q1 w va fA) (hb:V q2 w vb bs) (hna:fA.length=na) (hnb:bs.length=nb) (h:na+nb≤20000) :
 Calls Tryz.prog 49 #[Wh,va,vb] w fun e w'=>Prod w w' e na nb fA bs∧Ext w w':=tok 20001 (Nat.le_refl _) w q1 q2 va vb fA bs na nb ha hb hna hnb (by omega)
theorem wU (w:World):Calls Tryz.prog 73 #[] w fun e w'=>e = .returned Wh∧Ext w w':=by
 have hE:=(Ext.refl w).alloc (.cells #[.int .i64 40,.func (.func 130) #[] #[],.func (.func 74) #[] #[]] 77)
 go_enter Tryz.func73,Tryz.ntmps73
 go_wp2
 refine bodyPost_ret (v:=Wh) ?_ rfl ⟨rfl,hE⟩
 simp [results,Tryz.results73,go_sem, *]
abbrev Wt:Value:=.agg #[.int .i64 200,.func (.func 113) #[] #[],.func (.func 49) #[Wh] #[]]
theorem IG (w:World):Calls Tryz.prog 48 #[] w fun e w'=>e = .returned Wt∧Ext w w':=by
 go_enter Tryz.func48,Tryz.ntmps48
 go_wp2_with (fail)
 refine (wU _).mono ?_
 rintro e w1 ⟨rfl,hB⟩
 have hlt:w.heap.size<(w.alloc (.cells #[.int .i64 0,.nilFunc,.nilFunc] 77)).heap.size:=by simp
 have hc0:w1.cell? ⟨w.heap.size,0,none⟩=some (.int .i64 0):=(hB.cell (p:=⟨w.heap.size,0,none⟩) hlt).trans (by go_simp)
 have hc1:w1.cell? ⟨w.heap.size,1,none⟩=some .nilFunc:=(hB.cell (p:=⟨w.heap.size,1,none⟩) hlt).trans (by go_simp)
 have hc2:w1.cell? ⟨w.heap.size,2,none⟩=some .nilFunc:=(hB.cell (p:=⟨w.heap.size,2,none⟩) hlt).trans (by go_simp)
 have hf0:w1.frozen? ⟨w.heap.size,0,none⟩=false:=(hB.frozen (p:=⟨w.heap.size,0,none⟩) hlt).trans (by go_simp)
 have hf1:w1.frozen? ⟨w.heap.size,1,none⟩=false:=(hB.frozen (p:=⟨w.heap.size,1,none⟩) hlt).trans (by go_simp)
 have hf2:w1.frozen? ⟨w.heap.size,2,none⟩=false:=(hB.frozen (p:=⟨w.heap.size,2,none⟩) hlt).trans (by go_simp)
 have hE:=((((Ext.refl w).alloc (.cells #[.int .i64 0,.nilFunc,.nilFunc] 77)).below hB).setCell (p:=⟨w.heap.size,0,none⟩) (Nat.le_refl _) (.int .i64 200)).setCell (p:=⟨w.heap.size,1,none⟩) (Nat.le_refl _) (.func (.func 113) #[] #[])
 have hE2:=hE.setCell (p:=⟨w.heap.size,2,none⟩) (Nat.le_refl _) (.func (.func 49) #[Wh] #[])
 clear hE hB
 go_wp2
 refine bodyPost_ret (v:=Wt) ?_ rfl ⟨rfl,hE2⟩
 simp [results,Tryz.results48,go_sem, *]
set_option maxRecDepth 100000 in
set_option maxHeartbeats 8000000 in
theorem Eb (b:Bool) (w:World) (q1 q2:Nat) (vx vy:Value) (xs ys:List Nat) (nx ny:Nat) (hx:V q1 w vx xs) (hy:V q2 w vy ys) (hnx:xs.length=nx) (hny:ys.length=ny) (hle:ny≤nx) (hb:b=true→ny<nx) (hsum:nx+ny≤20000) (avf:ny<200) :
  Calls Tryz.prog 49 #[Wt,(if b then vy else vx),(if b then vx else vy)] w fun e w'=>Prod w w' e nx ny xs ys∧Ext w w':=by
 obtain ⟨A,ca,rfl,hca⟩:=hx.shape
 obtain ⟨A2,cb,rfl,hcb⟩:=hy.shape
 rw [hnx] at hx hca ⊢
 rw [hny] at hy hcb ⊢
 have hE0:Ext w (w.alloc (.cells #[.int .i64 200,.func (.func 113) #[] #[],.func (.func 49) #[Wh] #[]] 77)):=(Ext.refl w).alloc _
 replace hx:=hx.below hE0
 replace hy:=hy.below hE0
 have HL:Hid (xs.length=nx∧ys.length=ny):=⟨hnx,hny⟩
 clear hnx hny
 have hd1:decide ((ny:Int)<200)=true:=by rw [decide_eq_true_iff];omega
 have hT:=Lib.hid (U1 _ q1 q2 _ _ xs ys nx ny hx hy HL.out.1 HL.out.2 hsum)
 cases b
 case' false =>
  show Calls Tryz.prog 49 #[Wt,.slice A nx ca,.slice A2 ny cb] w _
  have hd:decide ((nx:Int)<(ny:Int))=false:=by rw [decide_eq_false_iff_not];omega
  go_enter Tryz.func49,Tryz.ntmps49
 case' true =>
  show Calls Tryz.prog 49 #[Wt,.slice A2 ny cb,.slice A nx ca] w _
  have hlt:=hb rfl
  have hd:decide ((ny:Int)<(nx:Int))=true:=by rw [decide_eq_true_iff];omega
  go_enter Tryz.func49,Tryz.ntmps49
 all_goals
  go_wp2_with (fail)
  refine hT.out.mono ?_
  rintro e w2 ⟨hp,hB2⟩
  replace hp:=hp.base hE0
  have hE2:=hE0.below hB2
  have HP:=Lib.hid hp
  obtain ⟨g,c,o,rfl,_⟩:=hp
  clear hT
  go_wp2
  go_ret
  exact ⟨HP.out,hE2⟩
theorem ab5 (w:World) (q1 q2:Nat) (va vb:Value) (fA bs:List Nat) (na nb:Nat) (ha:V q1 w va fA) (hb:V q2 w vb bs) (hna:fA.length=na) (hnb:bs.length=nb) (h:na+nb≤20000) (avf:min na nb<200) :
  Calls Tryz.prog 49 #[Wt,va,vb] w fun e w'=>Prod w w' e na nb fA bs∧Ext w w':=by
 by_cases hlt:na<nb
 · refine (Eb true w q2 q1 vb va bs fA nb na hb ha hnb hna (by omega) (fun _=>hlt) (by omega) (by omega)).mono ?_
   rintro e w' ⟨hp,hB⟩
   exact ⟨hp.turn (Nat.add_comm _ _) (Nat.mul_comm _ _),hB⟩
 · exact Eb false w q1 q2 va vb fA bs na nb ha hb hna hnb (by omega) (fun h=>by cases h) (by omega) (by omega)
set_option maxRecDepth 100000 in
set_option maxHeartbeats 2000000 in
theorem DT (w:World) (va vb:Value) (xs ys:List Nat) (ha:U w va xs) (hb:U w vb ys) (hla:xs.length≤1000) (hlb:ys.length≤1000) :
  Calls Tryz.prog 20 #[va,vb] w fun e w'=>(∃ u,e = .returned u∧Un w' u (val xs*val ys))∧Ext w w':=by
 obtain ⟨na,hna⟩:∃ na,(xs.length+1)/2=na:=⟨_,rfl⟩
 obtain ⟨nb,hnb⟩:∃ nb,(ys.length+1)/2=nb:=⟨_,rfl⟩
 have hHW:=Lib.hid (And.intro (kT xs) (kT ys))
 have hHP:=Lib.hid (And.intro (oq xs ha.lim) (oq ys hb.lim))
 have hHL:Hid ((iH xs).length=na∧(iH ys).length=nb):=⟨by rw [jw,hna],by rw [jw,hnb]⟩
 have hPa:=Lib.hid (fun W h=>mG W va xs h (by omega) na hna)
 have hPb:=Lib.hid (fun W h=>mG W vb ys h (by omega) nb hnb)
 have apw:na≤501:=by omega
 have apx:nb≤501:=by omega
 have hE:=Ext.refl w
 clear hna hnb
 go_enter Tryz.func20,Tryz.ntmps20
 go_wp2_with (fail)
 refine (wU _).mono ?_
 rintro e w1 ⟨rfl,hB⟩
 replace hE:=hE.below hB
 replace ha:=ha.below hB
 replace hb:=hb.below hB
 clear hB
 go_wp2_with (fail)
 refine (hPa.out _ ha).mono ?_
 rintro e w2 ⟨rfl,ho1,hB⟩
 replace hE:=hE.below hB
 replace hb:=hb.below hB
 clear hB ha
 go_wp2_with (fail)
 refine (hPb.out _ hb).mono ?_
 rintro e w3 ⟨rfl,ho2,hB⟩
 replace hE:=hE.below hB
 replace ho1:=ho1.ext hB
 clear hB hb
 go_wp2_with (fail)
 refine (U1 w3 (w1.heap.size+1) (w2.heap.size+1) _ _ _ _ na nb (ho1.Fe hHP.out.1 _ (by omega)) (ho2.Fe hHP.out.2 _ (by omega)) hHL.out.1 hHL.out.2 (by omega)).mono ?_
 rintro e w4 ⟨hp,hB⟩
 obtain ⟨g,c,o,rfl,ho,hv,hl,hlen⟩:=hp.open (na+nb) rfl
 replace hE:=hE.below hB
 clear hB ho1 ho2 hp
 go_wp2_with (fail)
 refine (pJ w4 (g+1) _ o (ho.Fe hl _ (by omega)) (by omega)).mono ?_
 rintro e w5 ⟨⟨u,rfl,hu⟩,hB⟩
 rw [hv,hHW.out.1,hHW.out.2] at hu
 replace hE:=hE.below hB
 have HF:Hid (∃ u',Ending.returned u = .returned u'∧Un w5 u' (val xs*val ys)):=⟨_,rfl,hu⟩
 clear hB ho hu hv hl hlen
 go_wp2
 go_ret
 exact ⟨HF.out,hE⟩
set_option maxRecDepth 100000 in
set_option maxHeartbeats 2000000 in
theorem Ih (w:World) (va vb:Value) (xs ys:List Nat) (ha:U w va xs) (hb:U w vb ys) (hla:xs.length≤1000) (hlb:ys.length≤1000) (akb:min xs.length ys.length≤398) :
  Calls Tryz.prog 10 #[va,vb] w fun e w'=>(∃ u,e = .returned u∧Un w' u (val xs*val ys))∧Ext w w':=by
 obtain ⟨na,hna⟩:∃ na,(xs.length+1)/2=na:=⟨_,rfl⟩
 obtain ⟨nb,hnb⟩:∃ nb,(ys.length+1)/2=nb:=⟨_,rfl⟩
 have hHW:=Lib.hid (And.intro (kT xs) (kT ys))
 have hHP:=Lib.hid (And.intro (oq xs ha.lim) (oq ys hb.lim))
 have hHL:Hid ((iH xs).length=na∧(iH ys).length=nb):=⟨by rw [jw,hna],by rw [jw,hnb]⟩
 have hPa:=Lib.hid (fun W h=>mG W va xs h (by omega) na hna)
 have hPb:=Lib.hid (fun W h=>mG W vb ys h (by omega) nb hnb)
 have apw:na≤501:=by omega
 have apx:nb≤501:=by omega
 have hmin:min na nb<200:=by omega
 have hE:=Ext.refl w
 clear hna hnb
 go_enter Tryz.func10,Tryz.ntmps10
 go_wp2_with (fail)
 refine (IG _).mono ?_
 rintro e w1 ⟨rfl,hB⟩
 replace hE:=hE.below hB
 replace ha:=ha.below hB
 replace hb:=hb.below hB
 clear hB
 go_wp2_with (fail)
 refine (hPa.out _ ha).mono ?_
 rintro e w2 ⟨rfl,ho1,hB⟩
 replace hE:=hE.below hB
 replace hb:=hb.below hB
 clear hB ha
 go_wp2_with (fail)
 refine (hPb.out _ hb).mono ?_
 rintro e w3 ⟨rfl,ho2,hB⟩
 replace hE:=hE.below hB
 replace ho1:=ho1.ext hB
 clear hB hb
 go_wp2_with (fail)
 refine (ab5 w3 (w1.heap.size+1) (w2.heap.size+1) _ _ _ _ na nb (ho1.Fe hHP.out.1 _ (by omega)) (ho2.Fe hHP.out.2 _ (by omega)) hHL.out.1 hHL.out.2 (by omega) (by omega)).mono ?_
 rintro e w4 ⟨hp,hB⟩
 obtain ⟨g,c,o,rfl,ho,hv,hl,hlen⟩:=hp.open (na+nb) rfl
 replace hE:=hE.below hB
 clear hB ho1 ho2 hp
 go_wp2_with (fail)
 refine (pJ w4 (g+1) _ o (ho.Fe hl _ (by omega)) (by omega)).mono ?_
 rintro e w5 ⟨⟨u,rfl,hu⟩,hB⟩
 rw [hv,hHW.out.1,hHW.out.2] at hu
 replace hE:=hE.below hB
 have HF:Hid (∃ u',Ending.returned u = .returned u'∧Un w5 u' (val xs*val ys)):=⟨_,rfl,hu⟩
 clear hB ho hu hv hl hlen
 go_wp2
 go_ret
 exact ⟨HF.out,hE⟩
end Go.Proofs.YtfhcmggpojhegaaGreatDoor
/- Products of limbs by school. -/
namespace Go.Proofs.YtfhcmggpojhegaaGreatDoor
open Go.RowKit
set_option linter.unusedVariables false
set_option maxHeartbeats 400000
def LB:Nat:=4294967296
theorem II (o:List Nat) (j x:Nat) (h:j<o.length):val (o.set j x)+LB^j*lb o j=val o+LB^j*x:=by
 rw [Nat.mul_comm (LB^j),Nat.mul_comm (LB^j)];exact tY o j x h
theorem nJ (xs:List Nat) (i:Nat) (h:i<xs.length):val (xs.take (i+1))=val (xs.take i)+LB^i*lb xs i:=by
 rw [Nat.mul_comm];exact jU xs i h
theorem WM (P S S' x y c d A v:Nat) (hset:S'+P*x=S+P*v) (hinv:S+P*c=A) (hd:x+y+c=v+LB*d):S'+P*LB*d=A+P*y:=by
 have h1:P*(x+y+c)=P*(v+LB*d):=by rw [hd]
 rw [Nat.mul_add,Nat.mul_add,Nat.mul_add,← Nat.mul_assoc] at h1
 omega
structure LwI (o0:List Nat) (n off:Nat) (A:Nat) (i:Nat) (o:List Nat) (cy:Nat):Prop where
 len:o.length=n
 lt:∀ x∈o,x<4294967296
 Ms:cy<4294967296
 val:val o+LB^(off+i)*cy=A
 out:∀ m,off+i≤m→lb o m=lb o0 m
theorem LwI.step {o0:List Nat} {n off A i:Nat} {o:List Nat} {cy:Nat} (h:LwI o0 n off A i o cy) (hi:off+i<n) (t s d:Nat)
  (hs:lb o (off+i)+t+cy=s+LB*d) (hsb:s<4294967296) (hd:d<4294967296):LwI o0 n off (A+LB^(off+i)*t) (i+1) (o.set (off+i) s) d:=by
 refine ⟨by simp [h.len],fO h.lt hsb,hd,?_,fun m hm=>?_⟩
 · rw [← Nat.add_assoc,Nat.pow_succ]
   exact WM _ _ _ _ _ _ _ _ _ (II o (off+i) s (by rw [h.len];exact hi)) h.val hs
 · rw [dR _ (by omega)];exact h.out m (by omega)
structure LsI (fA bs:List Nat) (n:Nat) (i:Nat) (o:List Nat):Prop where
 len:o.length=n
 lt:∀ x∈o,x<4294967296
 val:val o=val fA*val (bs.take i)
 out:∀ m,i+fA.length≤m→lb o m=0
theorem WN (t z cr s d u:Nat) (ht:t≤18446744065119617025) (hz:z<4294967296) (hc:cr<4294967296) (hu:cr+(t+z)=u) (hs:u%4294967296=s) (hd:u/4294967296=d) :
  z+t+cr=s+LB*d∧s<4294967296∧d<4294967296∧u<18446744073709551616∧t+z<18446744073709551616:=by
 unfold LB
 refine ⟨by omega,by omega,by omega,by omega,by omega⟩
set_option maxRecDepth 100000 in
set_option maxHeartbeats 8000000 in
theorem Ec (b:Bool) (w:World) (vx vy:Value) (xs ys:List Nat) (nx ny:Nat) (hx:U w vx xs) (hy:U w vy ys) (hnx:xs.length=nx) (hny:ys.length=ny) (hle:ny≤nx) (hb:b=true→ny<nx) (h12:ny<12) (hn:nx≤1000) :
  Calls Tryz.prog 21 #[(if b then vy else vx),(if b then vx else vy)] w fun e w'=>(∃ u,e = .returned u∧Un w' u (val xs*val ys))∧Ext w w':=by
 obtain ⟨A,ca,rfl,⟨hca,hma⟩,hxl,hxr⟩:=id hx
 obtain ⟨A2,cb,rfl,⟨hcb,hmb⟩,hyl,hyr⟩:=id hy
 have HL:Hid (xs.length=nx∧ys.length=ny):=⟨hnx,hny⟩
 have HTX:=Lib.hid (fun k=>nJ xs k)
 have HTY:=Lib.hid (fun k=>nJ ys k)
 have HT2:Hid (xs.take nx=xs∧ys.take ny=ys):=⟨by rw [← hnx];exact List.take_length,by rw [← hny];exact List.take_length⟩
 rw [hnx] at hca hma hxr ⊢
 rw [hny] at hcb hmb hyr ⊢
 obtain ⟨n,hnn⟩:∃ n,nx+ny=n:=⟨_,rfl⟩
 have hni:(nx:Int)+(ny:Int)=(n:Int):=by omega
 have hm1:(if (ny:Int)<(nx:Int) then (ny:Int) else (nx:Int))=(ny:Int):=by split<;>omega
 have hm2:(if (nx:Int)<(ny:Int) then (nx:Int) else (ny:Int))=(ny:Int):=by split<;>omega
 have QB:(if ny<nx then (ny:Int) else (nx:Int))=(ny:Int):=by split<;>omega
 have hm4:(if nx<ny then (nx:Int) else (ny:Int))=(ny:Int):=by split<;>omega
 have aew:decide ((12:Int)≤(ny:Int))=false:=by rw [decide_eq_false_iff_not];omega
 obtain ⟨i0,hi,hz0,hz1,hz2⟩:=info_parts pR
 obtain ⟨B,hB⟩:∃ B,w.heap.size=B:=⟨_,rfl⟩
 have HBS:=Lib.hid hB
 have hlt:b=true→ny<nx:=hb
 clear hx hy hnx hny hb
 cases b
 case' false =>
  show Calls Tryz.prog 21 #[.slice A nx ca,.slice A2 ny cb] w _
  have hd:decide ((nx:Int)<(ny:Int))=false:=by rw [decide_eq_false_iff_not];omega
  go_enter Tryz.func21,Tryz.ntmps21
  go_upto_region 5 with (fail)
 case' true =>
  show Calls Tryz.prog 21 #[.slice A2 ny cb,.slice A nx ca] w _
  have hlt':=hlt rfl
  have hd:decide ((ny:Int)<(nx:Int))=true:=by rw [decide_eq_true_iff];omega
  go_enter Tryz.func21,Tryz.ntmps21
  go_upto_region 5 with (fail)
 all_goals
  clear hd hm1 hm2 QB hm4 aew hlt
  go_wp2_with (at_make;refine wpList_make_full _ rfl _ _ 22 rfl w.heap.size 27 i0 (.int .u32 0) 1 Tryz.underlying22 hi hz0 hz1 _ _ _ _ n rfl rfl (by omega) (by omega) (by rw [hz2];omega) (by unfold maxLen;omega) (Nat.le_refl _) ?_;intro w1 hown hgrow)
  have ho0:Own w1 w.heap.size (.slice (some ⟨w.heap.size,0,none⟩) n n) (List.replicate n 0):=by
   have:=Own.zeros hown
   rwa [List.length_replicate] at this
  have hE0:Ext w w1:=(Ext.refl w).grown hgrow (Nat.le_refl _) (fun _ h=>by cases h)
  rw [hB] at ho0
  clear hown hgrow hi hz0 hz1 hz2 i0
  have hS0:Hid (LsI xs ys n 0 (List.replicate n 0)):=⟨by simp,fun x hx=>by simp at hx;omega,by simp [gJ,val],fun m _=>ig _ _⟩
  go_wp2
  go_loopw [39] (fun t wr=>∃ (i:Nat) (o:List Nat),i≤ny∧t = .int .i64 (i:Nat)∧Hid (LsI xs ys n i o)∧Own wr B (.slice (some ⟨B,0,none⟩) n n) o∧Ext w wr) (fun t _=>ny-(intOf t).toNat)
  case atStart=>exact ⟨0,_,Nat.zero_le _,rfl,hS0,ho0,hE0⟩
  case round =>
   clear hS0 ho0 hE0
   obtain ⟨i,o,hib,rfl,HO,hown,hE⟩:=hrel
   by_cases hlt:i<ny
   · obtain ⟨Vq,rfl,hb2,hcell2⟩:=hyr (by omega)
     obtain ⟨ad,rfl,hb1,hcell1⟩:=hxr (by omega)
     have hc0:=(hE.cell (p:=Vq.add i) (by rw [aJ];exact hb2)).trans (hcell2 i hlt)
     have hyb:=eU hyl i
     have hty:=HTY.out i (by rw [HL.out.2];exact hlt)
     obtain ⟨y,Mv⟩:∃ y,lb ys i=y:=⟨_,rfl⟩
     rw [Mv] at hc0 hyb hty
     have g1:i<n:=by omega
     have g2:(i:Int)<(n:Int):=by omega
     have g3:(i:Int)≤(i:Int)+(nx:Int):=by omega
     have g4:(i:Int)+(nx:Int)≤(n:Int):=by omega
     have g5:(0:Int)≤(i:Int):=by omega
     have g6:((i:Int)+(nx:Int)).toNat=i+nx:=by omega
     have g7:i+nx-i=nx:=by omega
     have g8:¬ (n=i):=by omega
     have g9:IntKind.i64.wrap ((i:Int)+(nx:Int))=(i:Int)+(nx:Int):=IntWalk.i64_in _ (by omega)
     have g10:(0:Int)≤(i:Int)+(nx:Int):=by omega
     go_wp2_with (fail)
     go_quiet (fail)
     go_wp2_with (fail)
     have HS1:Hid (LwI o n i (val o+LB^i*(val (xs.take 0)*y)) 0 o 0):=⟨HO.out.len,HO.out.lt,by decide,by simp [val],fun m _=>rfl⟩
     have QG:Ext w (wr.drewN nq):=hE.below (sK _ _)
     have agr:Own (wr.drewN nq) B (.slice (some ⟨B,0,none⟩) n n) o:=hown.ext (sK _ _)
     have apz:Hid (val (ys.take (i+1))=val (ys.take i)+LB^i*y):=hty
     have hno:Hid (lb o (i+nx)=0):=HO.out.out _ (by rw [HL.out.1];exact Nat.le_refl _)
     clear Mv hc0 hown hE hty
     go_loopw [53,8] (fun t s wx=>∃ (j:Nat) (o2:List Nat) (cy:Nat),j≤nx∧t = .int .i64 (j:Nat)∧s = .int .u64 (cy:Nat)∧Hid (LwI o n i (val o+LB^i*(val (xs.take j)*y)) j o2 cy)∧Own wx B (.slice (some ⟨B,0,none⟩) n n) o2∧Ext w wx) (fun t _ _=>nx-(intOf t).toNat)
     case atStart=>exact ⟨0,o,0,Nat.zero_le _,rfl,rfl,HS1,agr,QG⟩
     case round =>
      clear HS1 agr QG
      obtain ⟨j,o2,cy,hj,rfl,rfl,HW,hown,hE⟩:=hrel
      by_cases hjt:j<nx
      · have hc1:=(hE.cell (p:=ad.add j) (by rw [aJ];exact hb1)).trans (hcell1 j hjt)
        have hxb:=eU hxl j
        have htk:=HTX.out j (by rw [HL.out.1];exact hjt)
        have hcz:=hown.rd.2 (i+j) (by rw [HW.out.len];omega)
        have hf:=hown.frozen' (i+j)
        have hzb:=eU HW.out.lt (i+j)
        have hcy:=HW.out.Ms
        obtain ⟨x,EI⟩:∃ x,lb xs j=x:=⟨_,rfl⟩
        rw [EI] at hc1 hxb htk
        obtain ⟨z,hzz⟩:∃ z,lb o2 (i+j)=z:=⟨_,rfl⟩
        rw [hzz] at hcz hzb
        obtain ⟨t,ht⟩:∃ t,x*y=t:=⟨_,rfl⟩
        have ht1:t≤18446744065119617025:=by rw [← ht];exact M9 hxb hyb
        have hti:(x:Int)*(y:Int)=(t:Int):=by rw [← ht,Int.natCast_mul]
        obtain ⟨u,hu⟩:∃ u,cy+(t+z)=u:=⟨_,rfl⟩
        obtain ⟨s,hs⟩:∃ s,u%4294967296=s:=⟨_,rfl⟩
        obtain ⟨d,hd⟩:∃ d,u/4294967296=d:=⟨_,rfl⟩
        obtain ⟨hm,hsb,hdb,hub,htz⟩:=WN t z cy s d u ht1 hzb hcy hu hs hd
        have hst:=HW.out.step (by omega) t s d (by rw [hzz];exact hm) hsb hdb
        rw [Nat.add_assoc (val o),Nat.pow_add,Nat.mul_assoc,← Nat.mul_add,← ht,← Nat.mul_assoc,← Nat.add_mul,← htk] at hst
        have HST:=Lib.hid hst
        have hown2:=hown.set' (i+j) s
        have hE2:=hE.setCell (p:=⟨B,i+j,none⟩) (by rw [HBS.out];exact Nat.le_refl _) (.int .u32 (s:Nat))
        have q1:IntKind.u64.wrap (t:Int)=(t:Int):=by rw [IntKind.wrap_u64];omega
        have q2:IntKind.u64.wrap ((t:Int)+(z:Int))=(t:Int)+(z:Int):=by rw [IntKind.wrap_u64];omega
        have q3:(cy:Int)+((t:Int)+(z:Int))=(u:Int):=by omega
        have q4:IntKind.u64.wrap (u:Int)=(u:Int):=by rw [IntKind.wrap_u64];omega
        have q5:IntKind.u32.wrap (u:Int)=(s:Int):=by rw [IntKind.wrap_u32];omega
        have q6:(u:Int)%4294967296=(s:Int):=by omega
        have q7:(u:Int)/4294967296=(d:Int):=by omega
        have q8:IntKind.u64.wrap (x:Int)=(x:Int):=by rw [IntKind.wrap_u64];omega
        have q9:IntKind.u64.wrap (y:Int)=(y:Int):=by rw [IntKind.wrap_u64];omega
        have q10:IntKind.u64.wrap (z:Int)=(z:Int):=by rw [IntKind.wrap_u64];omega
        have q11:(u:Int)%18446744073709551616=(u:Int):=by omega
        have q12:(t:Int)%18446744073709551616=(t:Int):=by omega
        have q13:((t:Int)+(z:Int))%18446744073709551616=(t:Int)+(z:Int):=by omega
        have hbn:(ad.add j).block≠B:=by rw [aJ];have:=HBS.out;omega
        clear hst htk EI hzz ht hu hs hd hm hown hE HW hxb hzb ht1 hcy
        go_wp2
        go_roundw
        case rel=>exact ⟨j+1,_,d,by omega,by go_num,rfl,HST,hown2,hE2⟩
        case measure=>simp [intOf];omega
      · obtain rfl:j=nx:=by omega
        have hcz:=hown.rd.2 (i+j) (by rw [HW.out.len];omega)
        have hf:=hown.frozen' (i+j)
        have hl0:lb o2 (i+j)=0:=by rw [HW.out.out _ (Nat.le_refl _)];exact hno.out
        have hws:=II o2 (i+j) cy (by rw [HW.out.len];omega)
        rw [hl0,Nat.mul_zero,Nat.add_zero,HW.out.val,HT2.out.1] at hws
        have abV:(Value.int .u32 (lb o2 (i+j):Nat)) = .int .u32 0:=by rw [hl0];rfl
        rw [abV] at hcz
        have apA:=HW.out.Ms
        have q5:IntKind.u32.wrap (cy:Int)=(cy:Int):=by rw [IntKind.wrap_u32];omega
        have q6:(cy:Int)%4294967296=(cy:Int):=by omega
        have hown2:=hown.set' (i+j) cy
        have hE2:=hE.setCell (p:=⟨B,i+j,none⟩) (by rw [HBS.out];exact Nat.le_refl _) (.int .u32 (cy:Nat))
        have HST:Hid (LsI xs ys n (i+1) (o2.set (i+j) cy)):=by
         refine ⟨by rw [List.length_set];exact HW.out.len,fO HW.out.lt apA,?_,fun m hm=>?_⟩
         · rw [hws,apz.out,Nat.mul_add,← HO.out.val,Nat.mul_left_comm]
         · rw [HL.out.1] at hm
           rw [dR _ (by omega),HW.out.out _ (by omega)]
           exact HO.out.out m (by rw [HL.out.1];omega)
        have g12:(i:Int)+(j:Int)<(n:Int):=by omega
        have g13:i+j<n:=by omega
        clear hl0 hws abV hown hE HW apA apz hno
        go_wp2
        go_roundw
        case rel=>exact ⟨i+1,_,by omega,by go_num,HST,hown2,hE2⟩
        case measure=>simp [intOf];omega
   · obtain rfl:i=ny:=by omega
     have hu:=hown.KG HO.out.lt (by rw [HO.out.len];omega)
     have hvv:=HO.out.val
     rw [HT2.out.2] at hvv
     have HV:=Lib.hid hvv
     clear hown HO hvv
     go_wp2_with (fail)
     refine (uM _ _ _ hu).mono ?_
     rintro e w2 ⟨⟨u,rfl,hu2⟩,rfl⟩
     rw [HV.out] at hu2
     have HF:Hid (∃ u',Ending.returned u = .returned u'∧Un wr u' (val xs*val ys)):=⟨_,rfl,hu2⟩
     clear hu2 hu
     go_wp2
     go_ret
     exact ⟨HF.out,hE⟩
end Go.Proofs.YtfhcmggpojhegaaGreatDoor
/- Products by school; sums of products, carried. -/
namespace Go.Proofs.YtfhcmggpojhegaaGreatDoor
open Go.RowKit
set_option linter.unusedVariables false
set_option maxHeartbeats 400000
set_option maxRecDepth 100000 in
set_option maxHeartbeats 2000000 in
theorem RX (w:World) (va vb:Value) (xs ys:List Nat) (ha:U w va xs) (hb:U w vb ys) (hla:xs.length≤1000) (hlb:ys.length≤1000) (h12:12≤min xs.length ys.length) :
  Calls Tryz.prog 21 #[va,vb] w fun e w'=>(∃ u,e = .returned u∧Un w' u (val xs*val ys))∧Ext w w':=by
 obtain ⟨A,ca,rfl,hca⟩:=ha.shape
 obtain ⟨A2,cb,rfl,hcb⟩:=hb.shape
 obtain ⟨na,hna⟩:∃ na,(xs.length+1)/2=na:=⟨_,rfl⟩
 obtain ⟨nb,hnb⟩:∃ nb,(ys.length+1)/2=nb:=⟨_,rfl⟩
 have hHW:=Lib.hid (And.intro (kT xs) (kT ys))
 have hHP:=Lib.hid (And.intro (oq xs ha.lim) (oq ys hb.lim))
 have hHL:Hid ((iH xs).length=na∧(iH ys).length=nb):=⟨by rw [jw,hna],by rw [jw,hnb]⟩
 have hPa:=Lib.hid (fun W h=>mG W (.slice A xs.length ca) xs h (by omega) na hna)
 have hPb:=Lib.hid (fun W h=>mG W (.slice A2 ys.length cb) ys h (by omega) nb hnb)
 have apw:na≤501:=by omega
 have apx:nb≤501:=by omega
 generalize xs.length=lx at *
 generalize ys.length=ly at *
 obtain ⟨m,hm⟩:∃ m,min lx ly=m:=⟨_,rfl⟩
 have hm1:(if (ly:Int)<(lx:Int) then (ly:Int) else (lx:Int))=(m:Int):=by split<;>omega
 have QB:(if ly<lx then (ly:Int) else (lx:Int))=(m:Int):=by split<;>omega
 have aew:decide ((12:Int)≤(m:Int))=true:=by rw [decide_eq_true_iff];omega
 have hE:=Ext.refl w
 clear hna hnb h12 hm
 go_enter Tryz.func21,Tryz.ntmps21
 go_wp2_with (fail)
 refine (hPa.out _ ha).mono ?_
 rintro e w2 ⟨rfl,ho1,hB⟩
 replace hE:=hE.below hB
 replace hb:=hb.below hB
 clear hB ha
 go_wp2_with (fail)
 refine (hPb.out _ hb).mono ?_
 rintro e w3 ⟨rfl,ho2,hB⟩
 replace hE:=hE.below hB
 replace ho1:=ho1.ext hB
 clear hB hb
 go_wp2_with (fail)
 refine (IA w3 (w.heap.size+1) (w2.heap.size+1) _ _ _ _ (ho1.Fe hHP.out.1 _ (by omega)) (ho2.Fe hHP.out.2 _ (by omega)) na nb hHL.out.1 hHL.out.2 (by omega)).mono ?_
 rintro e w4 ⟨hp,hB⟩
 obtain ⟨g,c,o,rfl,ho,hv,hl,hlen⟩:=hp.open (na+nb) rfl
 replace hE:=hE.below hB
 clear hB ho1 ho2 hp
 go_wp2_with (fail)
 refine (pJ w4 (g+1) _ o (ho.Fe hl _ (by omega)) (by omega)).mono ?_
 rintro e w5 ⟨⟨u,rfl,hu⟩,hB⟩
 rw [hv,hHW.out.1,hHW.out.2] at hu
 replace hE:=hE.below hB
 have HF:Hid (∃ u',Ending.returned u = .returned u'∧Un w5 u' (val xs*val ys)):=⟨_,rfl,hu⟩
 clear hB ho hu hv hl hlen
 go_wp2
 go_ret
 exact ⟨HF.out,hE⟩
theorem BP (w:World) (va vb:Value) (xs ys:List Nat) (ha:U w va xs) (hb:U w vb ys) (hla:xs.length≤1000) (hlb:ys.length≤1000) :
  Calls Tryz.prog 21 #[va,vb] w fun e w'=>(∃ u,e = .returned u∧Un w' u (val xs*val ys))∧Ext w w':=by
 by_cases h:12≤min xs.length ys.length
 · exact RX w va vb xs ys ha hb hla hlb h
 · by_cases hlt:xs.length<ys.length
   · have:=Ec true w vb va ys xs _ _ hb ha rfl rfl (by omega) (fun _=>hlt) (by omega) hlb
     rw [Nat.mul_comm (val ys)] at this
     exact this
   · exact Ec false w va vb xs ys _ _ ha hb rfl rfl (by omega) (fun h=>by cases h) (by omega) hla
end Go.Proofs.YtfhcmggpojhegaaGreatDoor
/- Sums of products, carried. -/
namespace Go.Proofs.YtfhcmggpojhegaaGreatDoor
open Go.RowKit
set_option linter.unusedVariables false
set_option maxHeartbeats 400000
theorem Mj (xs:List Nat) (k:Nat) (h:k≤xs.length):val xs=val (xs.take k)+LB^k*val (xs.drop k):=by
 conv=>lhs;rw [← List.take_append_drop k xs]
 rw [val_append,List.length_take,Nat.min_eq_left h];rfl
theorem Ed (xs ys:List Nat):val (xs++ys)=val xs+LB^xs.length*val ys:=val_append xs ys
theorem RY (o xs:List Nat) (off:Nat) (h:off+xs.length≤o.length) (hz:∀ j,off≤j→j<off+xs.length→lb o j=0):val (splice o off xs)=val o+LB^off*val xs:=by
 have e1:=Mj o off (by omega)
 have e2:=Mj (o.drop off) xs.length (by rw [List.length_drop];omega)
 have e3:val ((o.drop off).take xs.length)=0:=by
  have:(o.drop off).take xs.length=List.replicate xs.length 0:=by
   refine kZ (by simp;omega) fun j hj=>?_
   have hj':j<xs.length:=by simp at hj;omega
   rw [iB hj',xu,ig,hz _ (by omega) (by omega)]
  rw [this,gJ]
 rw [e3,Nat.zero_add,List.drop_drop] at e2
 unfold splice
 rw [Ed,Ed,List.length_take,Nat.min_eq_left (by omega),e1,e2,Nat.mul_add]
 omega
theorem Ee (o xs:List Nat) (off:Nat) (h:off+xs.length≤o.length):(splice o off xs).length=o.length:=length_splice o off xs h
theorem RZ (o xs:List Nat) (off:Nat) (ho:∀ x∈o,x<4294967296) (hx:∀ x∈xs,x<4294967296):∀ x∈splice o off xs,x<4294967296:=by
 intro x h
 unfold splice at h
 rcases List.mem_append.1 h with h | h
 · exact ho x (List.mem_of_mem_take h)
 · rcases List.mem_append.1 h with h | h
   · exact hx x h
   · exact ho x (List.mem_of_mem_drop h)
theorem R3 (o xs:List Nat) (off:Nat) (t:List Value) (h:off+xs.length≤o.length):splice (mX o++t) off (mX xs)=mX (splice o off xs)++t:=by
 unfold splice
 rw [eG,List.take_append_of_le_length (by rw [eG];omega),List.drop_append_of_le_length (by rw [eG];omega)]
 simp [mX,List.map_take,List.map_drop]
theorem Mk {w:World} {ops:Array Oper} {rest:List Oper} {o:Oper} {a:Act} {Q:Exit→Act→World→Prop} (hgd:o.guard=none) (d s:Operand)
  (ho:o.op = .call { callee:=.builtin .copy,args:=#[d,s],argTypes:=#[22,22] }) (g off dLen dCap:Nat) (sp:Option Addr) (sLen sCap:Nat)
  (hd:a.eval d = .slice (some ⟨g,off,none⟩) dLen dCap) (hs:a.eval s = .slice sp sLen sCap) (base n c:Nat) (os:List Nat) (hown:Own w base (.slice (some ⟨g,0,none⟩) n c) os)
  (xs:List Nat) (hx:U w (.slice sp sLen sCap) xs) (hle:sLen≤dLen) (hfit:off+dLen≤n)
  (h:∀ w',Own w' base (.slice (some ⟨g,0,none⟩) n c) (splice os off xs)→But g w w'→wpList Tryz.prog ops Q rest (a.put o.dst (goInt xs.length)) w'):wpList Tryz.prog ops Q (o::rest) a w:=by
 obtain ⟨A,c',hv,hcc,hlim,hr⟩:=hx
 injection hv with q1 q2 q3
 have hi:(Tryz.prog.info? 27).map (·.size)=some 1:=by kernel_rfl
 have hlen:(mX xs).length=xs.length:=eG xs
 have agm:=hown.caps
 rcases Nat.eq_zero_or_pos xs.length with h0 | h0
 · obtain rfl:=List.eq_nil_of_length_eq_zero h0
   have q2':sLen=0:=q2
   rw [q2'] at hs
   refine wpList_copy_nothing hgd d s 22 22 ho 27 Tryz.underlying22 hi _ _ dLen dCap 0 sCap hd hs (Nat.zero_min _) ?_
   refine h w ?_ (But.refl g w)
   have e:splice os off ([]:List Nat)=os:=by simp [splice]
   rw [e];exact hown
 · obtain ⟨ad,hA,hb,hcell⟩:=hr h0
   have hh0:w.ownsRow base 27 1 (.slice (some ⟨g,0,none⟩) n c) os.length (mX os):=hown
   rcases hh0.2 with ⟨h1,_⟩ | ⟨g',cap,cur,h1,hg,hh,h2,h3,h4,h5⟩
   · cases h1
   · injection h1 with e1 e2 e3
     injection e1 with e1
     injection e1 with e1
     subst e1
     have Y7:cur.toList=mX os++cur.toList.drop os.length:=by
      conv=>lhs;rw [← List.take_append_drop os.length cur.toList]
      rw [← h5,Nat.mul_one]
     have hsz:os.length≤cur.size:=by omega
     refine wpList_copy_own hgd d s 22 22 ho 27 Tryz.underlying22 hi g off dLen dCap ad sLen sCap hd (by rw [hs,q1,hA]) cur 27 hh (mX xs) (by rw [hlen,← q2];exact (Nat.min_eq_left hle).symm) ?_ (by rw [hlen];omega) (by intro u hu;obtain ⟨z,_,rfl⟩:=List.mem_map.1 hu;rfl) ?_
     · intro j u hj
       have hjl:j<xs.length:=by
        rcases Nat.lt_or_ge j xs.length with h | h
        · exact h
        · rw [List.getElem?_eq_none (by rw [eG];exact h)] at hj;cases hj
       rw [hcell j hjl,← qX xs hjl,hj]
     · rw [hlen]
       have e:cur.toList.take off++(mX xs++cur.toList.drop (off+xs.length))=mX (splice os off xs)++cur.toList.drop os.length:=by
        rw [← R3 os xs off _ (by omega),← Y7]
        unfold splice
        rw [hlen]
       have hsl:=Ee os xs off (by omega)
       refine h _ ?_ ⟨rfl,rfl,rfl,by simp [World.setRow],fun k hk hne=>setRow_other w g k _ (fun e=>hne (by rw [e]))⟩
       refine ⟨by rw [eG,Nat.mul_one],.inr ⟨g,cap,_,by rw [e2,e3,hsl],hg,setRow_heap w g _ _ _ _ hh,by rw [hsl];exact h2,h3,?_,?_⟩⟩
       · rw [e,List.size_toArray,List.length_append,eG,hsl,List.length_drop,Array.length_toList (xs:=cur)]
         omega
       · rw [e,Nat.mul_one,List.take_append_of_le_length (by rw [eG];exact Nat.le_refl _),← eG (splice os off xs),List.take_length]
def cval:List Nat→Nat
 | []=>0
 | x::xs=>x+LB*cval xs
theorem OW (xs ys:List Nat):cval (xs++ys)=cval xs+LB^xs.length*cval ys:=by
 induction xs with
 | nil=>simp [cval]
 | cons x xs ih =>
  simp only [List.cons_append,cval,ih,List.length_cons,Nat.pow_succ]
  rw [Nat.mul_add,Nat.add_assoc]
  congr 2
  rw [← Nat.mul_assoc,Nat.mul_comm LB]
theorem qP (xs:List Nat) (k:Nat) (h:k<xs.length):cval (xs.take (k+1))=cval (xs.take k)+LB^k*lb xs k:=by
 have e:xs.take (k+1)=xs.take k++[lb xs k]:=by
  rw [List.take_add_one,List.getElem?_eq_getElem h]
  unfold lb
  rw [List.getElem?_eq_getElem h];rfl
 rw [e,OW,List.length_take,Nat.min_eq_left (by omega)]
 simp [cval]
structure CaI (cs:List Nat) (n k:Nat) (o:List Nat) (T:Nat):Prop where
 len:o.length=n
 lt:∀ x∈o,x<4294967296
 val:val o+LB^k*T=cval (cs.take k)
 out:∀ m,k≤m→lb o m=0
 tb:T<36893488147419103232
theorem CaI.step {cs:List Nat} {n k:Nat} {o:List Nat} {T:Nat} (h:CaI cs n k o T) (hk:k<n) (hkc:k<cs.length) (S:Nat) (hS:lb cs k=S) (hSb:S<79228162514264337593543950336) (z T':Nat) (hz:(T+S)%4294967296=z) (hT:(T+S)/4294967296=T') :
  CaI cs n (k+1) (o.set k z) T':=by
 have hb:=h.tb
 refine ⟨by simp [h.len],fO h.lt (by omega),?_,fun m hm=>by rw [dR _ (by omega)];exact h.out m (by omega),by omega⟩
 have hset:=II o k z (by rw [h.len];exact hk)
 rw [h.out k (Nat.le_refl _),Nat.mul_zero,Nat.add_zero] at hset
 rw [qP _ _ hkc,hS,hset,← h.val,Nat.pow_succ,Nat.mul_assoc,Nat.add_assoc,← Nat.mul_add,Nat.add_assoc,← Nat.mul_add]
 congr 2
 unfold LB
 omega
theorem R4 (T S low high R5 c2 s up h:Nat) (hT:T<36893488147419103232) (hS:S<79228162514264337593543950336) (h1:T%18446744073709551616=low) (h2:T/18446744073709551616=high) (h3:S%18446744073709551616=R5) (h4:S/18446744073709551616=c2)
  (h5:(low+R5)%18446744073709551616=s) (h6:(low+R5)/18446744073709551616=up) (h7:high+(c2+up)=h) :
  s%4294967296=(T+S)%4294967296∧s/4294967296+4294967296*(h%4294967296)=(T+S)/4294967296%18446744073709551616∧h/4294967296=(T+S)/4294967296/18446744073709551616∧h<8589934592∧c2<4294967296∧up≤1∧high≤1:=by
 have e1:T=18446744073709551616*high+low:=by omega
 have e2:S=18446744073709551616*c2+R5:=by omega
 have e3:low+R5=18446744073709551616*up+s:=by omega
 have b1:low<18446744073709551616:=by omega
 have b2:R5<18446744073709551616:=by omega
 have b3:s<18446744073709551616:=by omega
 clear h1 h2 h3 h4 h5 h6
 have e4:T+S=18446744073709551616*h+s:=by omega
 have b4:c2<4294967296:=by omega
 have b5:up≤1:=by omega
 have b6:high≤1:=by omega
 have b7:h<8589934592:=by omega
 rw [e4]
 clear e1 e2 e3 e4 hT hS h7
 refine ⟨by omega,by omega,by omega,b7,b4,b5,b6⟩
theorem aeY (S:Nat) (hS:S<79228162514264337593543950336) (s0 s1 s2:Nat) (h0:S%4294967296=s0) (h1:S/4294967296%4294967296=s1) (h2:S/18446744073709551616%4294967296=s2):S%18446744073709551616=s1*4294967296+s0∧S/18446744073709551616=s2:=⟨by omega,by omega⟩
theorem U3.cells3 {w:World} {A:Option Addr} {n c:Nat} {cs:List Nat} (h:U3 w (.slice A n c) cs) (h0:0<n):∃ ad,A=some ad∧ad.block<w.heap.size∧∀ k,k<n→w.cell? (ad.add (k*3))=some (.int .u32 (lb cs k%4294967296:Nat))∧w.cell? ⟨(ad.add (k*3)).block,(ad.add (k*3)).off+1,none⟩=some (.int .u32 (lb cs k/4294967296%4294967296:Nat))∧w.cell? ⟨(ad.add (k*3)).block,(ad.add (k*3)).off+2,none⟩=some (.int .u32 (lb cs k/18446744073709551616%4294967296:Nat)):=by
 obtain ⟨A',c',e,_,hr⟩:=h
 injection e with e1 e2 e3
 subst e1 e2 e3
 obtain ⟨ad,rfl,hb,hcell⟩:=hr h0
 refine ⟨ad,rfl,hb,fun k hk=>?_⟩
 have hl:=afq cs k hk
 have k0:=hcell (k*3) (by omega)
 have k1:=hcell (k*3+1) (by omega)
 have k2:=hcell (k*3+2) (by omega)
 rw [hl.1] at k0
 rw [hl.2.1,← addr_add_add,KU _ 1 (by decide)] at k1
 rw [hl.2.2,← addr_add_add,KU _ 2 (by decide)] at k2
 exact ⟨k0,k1,k2⟩
set_option maxRecDepth 100000 in
set_option maxHeartbeats 8000000 in
theorem Ef (w:World) (v:Value) (cs:List Nat) (hu:U3 w v cs) (hcs:∀ x∈cs,x<79228162514264337593543950336) (hl:cs.length≤100000) :
  Calls Tryz.prog 43 #[v] w fun e w'=>(∃ u,e = .returned u∧Un w' u (cval cs))∧Ext w w':=by
 obtain ⟨A,c,hv,hc,hr⟩:=id hu
 subst hv
 obtain ⟨n,hn⟩:∃ n,cs.length=n:=⟨_,rfl⟩
 have HN:=Lib.hid hn
 have SS:=Lib.hid (fun k=>qP cs k)
 have HT2:Hid (cs.take n=cs):=by rw [Hid,← hn];exact List.take_length
 have HCS:=Lib.hid (bK (xs:=cs) (by decide) hcs)
 rw [hn] at hu hc hl ⊢
 clear hr hn
 obtain ⟨m,hm⟩:∃ m,n+3=m:=⟨_,rfl⟩
 have SX:(n:Int)+3=(m:Int):=by omega
 obtain ⟨i0,hi,hz0,hz1,hz2⟩:=info_parts pR
 obtain ⟨B,hB⟩:∃ B,w.heap.size=B:=⟨_,rfl⟩
 have HBS:=Lib.hid hB
 go_enter Tryz.func43,Tryz.ntmps43
 go_wp2_with (at_make;refine wpList_make_full _ rfl _ _ 22 rfl w.heap.size 27 i0 (.int .u32 0) 1 Tryz.underlying22 hi hz0 hz1 _ _ _ _ m rfl rfl (by omega) (by omega) (by rw [hz2];omega) (by unfold maxLen;omega) (Nat.le_refl _) ?_;intro w1 hown hgrow)
 have ho0:Own w1 w.heap.size (.slice (some ⟨w.heap.size,0,none⟩) m m) (List.replicate m 0):=by
  have:=Own.zeros hown
  rwa [List.length_replicate] at this
 have hE0:Ext w w1:=(Ext.refl w).grown hgrow (Nat.le_refl _) (fun _ h=>by cases h)
 rw [hB] at ho0
 clear hown hgrow hi hz0 hz1 hz2 i0
 have hS0:Hid (CaI cs m 0 (List.replicate m 0) 0):=⟨by simp,fun x hx=>by simp at hx;omega,by simp [gJ,cval],fun m _=>ig _ _,by decide⟩
 go_wp2
 go_loopw [15,4,5] (fun t l h wr=>∃ (k:Nat) (o:List Nat) (T low high:Nat),k≤n∧t = .int .i64 (k:Nat)∧l = .int .u64 (low:Nat)∧h = .int .u64 (high:Nat)∧Hid (T%18446744073709551616=low∧T/18446744073709551616=high)∧Hid (CaI cs m k o T)∧Own wr B (.slice (some ⟨B,0,none⟩) m m) o∧Ext w wr) (fun t _ _ _=>n-(intOf t).toNat)
 case atStart=>exact ⟨0,_,0,0,0,Nat.zero_le _,rfl,rfl,rfl,⟨rfl,rfl⟩,hS0,ho0,hE0⟩
 case round =>
  clear hS0 ho0 hE0
  obtain ⟨k,o,T,low,high,hkn,rfl,rfl,rfl,HT,HO,hown,hE⟩:=hrel
  by_cases hlt:k<n
  · obtain ⟨ad,rfl,hb,hcell⟩:=hu.cells3 (by omega)
    obtain ⟨k0,k1,k2⟩:=hcell k hlt
    have hSb:=HCS.out k
    obtain ⟨S,hS⟩:∃ S,lb cs k=S:=⟨_,rfl⟩
    rw [hS] at k0 k1 k2 hSb
    obtain ⟨s0,hs0⟩:∃ s0,S%4294967296=s0:=⟨_,rfl⟩
    obtain ⟨s1,hs1⟩:∃ s1,S/4294967296%4294967296=s1:=⟨_,rfl⟩
    obtain ⟨c2,hs2⟩:∃ c2,S/18446744073709551616%4294967296=c2:=⟨_,rfl⟩
    obtain ⟨hlo3,hhi3⟩:=aeY S hSb s0 s1 c2 hs0 hs1 hs2
    rw [hs0] at k0
    rw [hs1] at k1
    rw [hs2] at k2
    have b0:s0<4294967296:=by rw [← hs0];exact Nat.mod_lt _ (by decide)
    have b1:s1<4294967296:=by rw [← hs1];exact Nat.mod_lt _ (by decide)
    obtain ⟨m1,hm1⟩:∃ m1,s1*4294967296=m1:=⟨_,rfl⟩
    obtain ⟨R5,akc⟩:∃ R5,m1+s0=R5:=⟨_,rfl⟩
    rw [hm1,akc] at hlo3
    have hor:bits .or .u64 (m1:Int) (s0:Int)=(R5:Int):=by
     rw [u64_or_nat _ _ (by omega) (by omega),nat_join 32 m1 s0 (by rw [← hm1];exact Nat.mul_mod_left _ _) b0,akc]
    obtain ⟨s,hss⟩:∃ s,(low+R5)%18446744073709551616=s:=⟨_,rfl⟩
    obtain ⟨up,hup⟩:∃ up,(low+R5)/18446744073709551616=up:=⟨_,rfl⟩
    obtain ⟨h,hh⟩:∃ h,high+(c2+up)=h:=⟨_,rfl⟩
    obtain ⟨r1,r2,r3,r4,r5,r6,r7⟩:=R4 T S low high R5 c2 s up h HO.out.tb hSb HT.out.1 HT.out.2 hlo3 hhi3 hss hup hh
    obtain ⟨z,hz⟩:∃ z,(T+S)%4294967296=z:=⟨_,rfl⟩
    obtain ⟨T',hT'⟩:∃ T',(T+S)/4294967296=T':=⟨_,rfl⟩
    have hst:=Lib.hid (HO.out.step (by omega) (by rw [HN.out];exact hlt) S hS hSb z T' hz hT')
    rw [hz] at r1
    rw [hT'] at r2 r3
    obtain ⟨low',hlow'⟩:∃ low',T'%18446744073709551616=low':=⟨_,rfl⟩
    obtain ⟨high',R6⟩:∃ high',T'/18446744073709551616=high':=⟨_,rfl⟩
    rw [hlow'] at r2
    rw [R6] at r3
    have HT2:Hid (T'%18446744073709551616=low'∧T'/18446744073709551616=high'):=⟨hlow',R6⟩
    obtain ⟨sq,hsq⟩:∃ sq,s/4294967296=sq:=⟨_,rfl⟩
    obtain ⟨hh2,hhh⟩:∃ hh2,4294967296*(h%4294967296)=hh2:=⟨_,rfl⟩
    rw [hsq,hhh] at r2
    have hsb:s<18446744073709551616:=by rw [← hss];exact Nat.mod_lt _ (by decide)
    have avi:sq<4294967296:=by omega
    have hhb:hh2<18446744073709551616:=by omega
    have hor2:bits .or .u64 (sq:Int) (hh2:Int)=(low':Int):=by
     rw [u64_or_nat _ _ (by omega) hhb,Nat.or_comm,nat_join 32 hh2 sq (by rw [← hhh];exact Nat.mul_mod_right _ _) avi,← r2]
     congr 1;omega
    have hadd:∀ w,(callFunc 109 #[.int .u64 (low:Nat),.int .u64 (R5:Nat),.int .u64 0]).run Tryz.prog w = .ok (.value (.tuple #[.int .u64 (s:Nat),.int .u64 (up:Nat)])) w:=rZ low R5 0 s up (Nat.zero_le _) hss hup
    have f1:(s1:Int)*4294967296=(m1:Int):=by omega
    have f2:IntKind.u64.wrap (m1:Int)=(m1:Int):=by rw [IntKind.wrap_u64];omega
    have f2':(m1:Int)%18446744073709551616=(m1:Int):=by omega
    have f3:IntKind.u64.wrap (s0:Int)=(s0:Int):=by rw [IntKind.wrap_u64];omega
    have f4:IntKind.u64.wrap (s1:Int)=(s1:Int):=by rw [IntKind.wrap_u64];omega
    have f5:IntKind.u64.wrap (c2:Int)=(c2:Int):=by rw [IntKind.wrap_u64];omega
    have f6:IntKind.u64.wrap ((c2:Int)+(up:Int))=(c2:Int)+(up:Int):=by rw [IntKind.wrap_u64];omega
    have f7:(high:Int)+((c2:Int)+(up:Int))=(h:Int):=by omega
    have f8:IntKind.u64.wrap (h:Int)=(h:Int):=by rw [IntKind.wrap_u64];omega
    have f9:IntKind.u32.wrap (s:Int)=(z:Int):=by rw [IntKind.wrap_u32];omega
    have f9':(s:Int)%4294967296=(z:Int):=by omega
    have f10:(s:Int)/4294967296=(sq:Int):=by omega
    have f11:IntKind.u64.wrap ((h:Int)*4294967296)=(hh2:Int):=by rw [IntKind.wrap_u64];omega
    have f11':((h:Int)*4294967296)%18446744073709551616=(hh2:Int):=by omega
    have f12:(h:Int)/4294967296=(high':Int):=by omega
    have axO:low<18446744073709551616:=by have:=HT.out.1;omega
    have hf:=hown.frozen' k
    have hcz:=hown.rd.2 k (by rw [HO.out.len];omega)
    have avj:lb o k=0:=HO.out.out k (Nat.le_refl _)
    have hown2:=hown.set' k z
    have hE2:=hE.setCell (p:=⟨B,k,none⟩) (by rw [hB];exact Nat.le_refl _) (.int .u32 (z:Nat))
    replace k0:=(hE.cell (p:=ad.add (k*3)) (by rw [aJ];exact hb)).trans k0
    replace k1:=(hE.cell (p:=⟨(ad.add (k*3)).block,(ad.add (k*3)).off+1,none⟩) (by rw [aJ];exact hb)).trans k1
    replace k2:=(hE.cell (p:=⟨(ad.add (k*3)).block,(ad.add (k*3)).off+2,none⟩) (by rw [aJ];exact hb)).trans k2
    have hkb:(k:Int)<(n:Int):=by omega
    have hk0:(0:Int)≤(k:Int):=by omega
    have hkm:(k:Int)<(m:Int):=by omega
    clear hcell hS hs0 hs1 hs2 hlo3 hhi3 hm1 akc hss hup hh r1 r2 r3 hz hT' hlow' R6 hsq hhh hown hE HO HT avj
    go_wp2
    go_region
    go_wp2
    go_roundw
    case rel=>exact ⟨k+1,_,T',low',high',by omega,by go_num,rfl,rfl,HT2,hst,hown2.drew,hE2.drew⟩
    case measure=>simp [intOf];omega
  · obtain rfl:k=n:=by omega
    have hTb:=HO.out.tb
    have hlow:=HT.out.1
    have hhigh:=HT.out.2
    obtain ⟨t0,ht0⟩:∃ t0,low%4294967296=t0:=⟨_,rfl⟩
    obtain ⟨t1,ht1⟩:∃ t1,low/4294967296=t1:=⟨_,rfl⟩
    have aB1:low<18446744073709551616:=by omega
    have hh2:high<4294967296:=by omega
    have p1:IntKind.u32.wrap (low:Int)=(t0:Int):=by rw [IntKind.wrap_u32];omega
    have p1':(low:Int)%4294967296=(t0:Int):=by omega
    have p2:(low:Int)/4294967296=(t1:Int):=by omega
    have avk:t1<4294967296:=by omega
    have avl:t0<4294967296:=by omega
    have p3:IntKind.u32.wrap (t1:Int)=(t1:Int):=by rw [IntKind.wrap_u32];omega
    have p4:IntKind.u32.wrap (high:Int)=(high:Int):=by rw [IntKind.wrap_u32];omega
    have p3':(t1:Int)%4294967296=(t1:Int):=by omega
    have p4':(high:Int)%4294967296=(high:Int):=by omega
    have hTv:Hid (T=t0+LB*(t1+LB*high)):=by unfold LB;rw [Hid];omega
    have q1:k<m:=by omega
    have q2:(k:Int)<(m:Int):=by omega
    have q3:m-k=3:=by omega
    have q4:¬ (m=k):=by omega
    have hcv:=HO.out.val
    rw [HT2.out] at hcv
    have hu3:U (wr.alloc (.cells #[.int .u32 (t0:Nat),.int .u32 (t1:Nat),.int .u32 (high:Nat)] 27)) (.slice (some ⟨wr.heap.size,0,none⟩) 3 3) [t0,t1,high]:=Fh wr [t0,t1,high] (by simp;exact ⟨avl,avk,hh2⟩) (by simp)
    have ags:=hown.alloc (.cells #[.int .u32 (t0:Nat),.int .u32 (t1:Nat),.int .u32 (high:Nat)] 27)
    have hEA:=hE.alloc (.cells #[.int .u32 (t0:Nat),.int .u32 (t1:Nat),.int .u32 (high:Nat)] 27)
    have hsp:=RY o [t0,t1,high] k (by rw [HO.out.len];simp;omega) (fun j hj _=>HO.out.out j hj)
    have hsl:=Ee o [t0,t1,high] k (by rw [HO.out.len];simp;omega)
    have hslt:=RZ o [t0,t1,high] k HO.out.lt hu3.lim
    have HV:Hid (val (splice o k [t0,t1,high])=cval cs):=by
     rw [Hid,hsp,← hcv,hTv.out]
     simp [val,LB]
    have HSL:Hid ((splice o k [t0,t1,high]).length=m):=by rw [Hid,hsl];exact HO.out.len
    clear hsp hsl hcv hlow hhigh HT HO hTb hown hE ht0 ht1
    go_wp2_with (first
     | (with_reducible show wpList _ _ _ (⟨some 72,_,_,_,_,_⟩::_) _ _;refine Classical.byContradiction fun hcontra=>?_)
     | fail)
    refine hcontra ?_
    refine Mk (o:=⟨some 72,_,_,_,_,_⟩) rfl (.tmp 63) (.tmp 71) rfl B k 3 3 (some ⟨wr.heap.size,0,none⟩) 3 3 rfl rfl B m m o ags [t0,t1,high] hu3 (by omega) (by omega) ?_
    intro w2 hown2 hb2
    clear hcontra
    have hE2:=Ext.but hEA hb2 (by rw [HBS.out];exact Nat.le_refl _)
    have hu:=hown2.KG hslt (by rw [HSL.out];omega)
    clear hown2 ags hu3 hb2 hEA hslt
    go_wp2_with (fail)
    refine (uM _ _ _ hu).mono ?_
    rintro e w3 ⟨⟨u,rfl,hu2⟩,rfl⟩
    rw [HV.out] at hu2
    have HF:Hid (∃ u',Ending.returned u = .returned u'∧Un w2 u' (cval cs)):=⟨_,rfl,hu2⟩
    clear hu2 hu
    go_wp2
    go_ret
    exact ⟨HF.out,hE2⟩
end Go.Proofs.YtfhcmggpojhegaaGreatDoor
