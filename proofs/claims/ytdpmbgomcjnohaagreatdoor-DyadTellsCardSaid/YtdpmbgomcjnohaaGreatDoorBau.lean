/- Whole numbers: shifts. -/
import Derived.Test.YtdpmbgomcjnohaaGreatDoorBaq
import Derived.Test.YtdpmbgomcjnohaaGreatDoorBap
import Derived.Deep.RegionHeld3
import Derived.Deep.Cut

namespace Go.Proofs.YtdpmbgomcjnohaaGreatDoor
open Go.RowKit
set_option linter.unusedVariables false
set_option maxHeartbeats 400000
theorem XE (p:Bool) (n k:Nat):sg p (n*2^k)=sg p n*2^k:=by
 have e:((n*2^k:Nat):Int)=(n:Int)*2^k:=by rw [Int.natCast_mul,Int.natCast_pow];rfl
 cases p
 · exact e
 · show -((n*2^k:Nat):Int) = -(n:Int)*2^k
   rw [e,Int.neg_mul]
theorem Ur (n k:Nat):sg false (n/2^k)=sg false n/2^k:=by
 show ((n/2^k:Nat):Int)=(n:Int)/2^k
 rw [Int.natCast_ediv,Int.natCast_pow];rfl
theorem Us (n k:Nat) (h:n≠0):sg true ((n-1)/2^k+1)=sg true n/2^k:=by
 show -(((n-1)/2^k+1:Nat):Int) = -(n:Int)/2^k
 have hP:0<2^k:=Nat.two_pow_pos k
 have e:(2:Int)^k=((2^k:Nat):Int):=by rw [Int.natCast_pow];rfl
 rw [e]
 have e1:=Nat.div_add_mod (n-1) (2^k)
 have e2:=Nat.mod_lt (n-1) hP
 generalize (n-1)/2^k=d at *
 generalize (n-1)%2^k=r at *
 generalize 2^k=P at *
 have e3:(P:Int) * -((d+1:Nat):Int) = -((P:Int)*(d:Int))-(P:Int):=by rw [Int.natCast_add,Int.mul_neg,Int.mul_add];omega
 have e4:((P*d:Nat):Int)=(P:Int)*(d:Int):=Int.natCast_mul _ _
 have:=(Int.ediv_emod_unique (a := -(n:Int)) (b:=(P:Int)) (q := -((d+1:Nat):Int)) (r:=(P:Int)-1-(r:Int)) (by omega)).2 ⟨by rw [e3,← e4];omega,by omega,by omega⟩
 exact this.1.symm
set_option maxRecDepth 100000 in
theorem XF (w:World) (N:Nat) (s:Int) (t:Nat) (hs : -s=(t:Int)) (ht:t≤1000000) (hc:w.cell? ⟨N,0,none⟩=some (.int .i64 s)) (v:Value) (n:Nat) (hu:Un w v n) (hl:(limbs n).length≤1000000) :
  Calls Tryz.prog 103 #[v,.pointer (some ⟨N,0,none⟩)] w fun e w'=>∃ u,e = .returned u∧Un w' u (n/2^t)∧Ext w w':=by
 have hS:=Lib.hid (O0 w v n (t:Int) hu (by omega) (by omega) (by omega) _ rfl)
 rw [Int.toNat_natCast] at hS
 obtain ⟨A,c,rfl,-⟩:=Un.sh hu
 have ht2:t≤1000000:=ht
 clear hl hu
 go_enter Tryz.func103,Tryz.ntmps103
 go_wp2_with (go_at_call 104;refine hS.out.mono ?_;rintro e w2 ⟨u,rfl,hu2,hE2⟩;obtain ⟨A2,c2,rfl,-⟩:=Un.sh hu2)
 go_ret
 exact ⟨_,rfl,hu2,hE2⟩
set_option maxRecDepth 100000 in
theorem XG (w:World) (N:Nat) (s:Int) (t:Nat) (hs : -s=(t:Int)) (ht:t≤1000000) (hN:N<w.heap.size) (hc:w.cell? ⟨N,0,none⟩=some (.int .i64 s)) (v:Value) (n:Nat) (hn:n≠0) (hu:Un w v n) (hl:(limbs n).length≤1000000) :
  Calls Tryz.prog 105 #[v,.pointer (some ⟨N,0,none⟩)] w fun e w'=>∃ u,e = .returned u∧Un w' u ((n-1)/2^t+1)∧Ext w w':=by
 have hl2:(limbs (n-1)).length≤1000000:=Nat.le_trans (fC (by omega)) hl
 have hl3:(limbs ((n-1)/2^t)).length≤1000000:=Nat.le_trans (fC (Nat.div_le_self _ _)) hl2
 have hSb:=Lib.hid (fun W h g=>Ms W v (.slice (some ⟨w.heap.size,0,none⟩) 1 1) n 1 h g (by omega) true (decide_eq_true (by omega)) (n-1) rfl)
 have hS:=Lib.hid (fun W u h=>O0 W u (n-1) (t:Int) h (by omega) (by omega) (by omega) ((n-1)/2^t) (by rw [Int.toNat_natCast]))
 have hA:=Lib.hid (fun W u x h g=>QE W u x ((n-1)/2^t) 1 h g (by omega) GJ _ rfl)
 obtain ⟨A,c,rfl,-⟩:=Un.sh hu
 have ht2:t≤1000000:=ht
 clear hl hl2 hl3
 go_enter Tryz.func105,Tryz.ntmps105
 go_wp2_with (first
  | (go_at_call 106;refine (hSb.out _ (Un.below hu ((Ext.refl _).alloc _)) (tV _)).mono ?_;rintro e w2 ⟨u,rfl,hu2,hE2⟩;obtain ⟨A2,c2,rfl,-⟩:=Un.sh hu2;have ZQ:=((Ext.refl w).alloc (.cells #[.int .u32 1] 67)).below hE2;have hc2:=(ZQ.cell (p:=⟨N,0,none⟩) hN).trans hc)
  | (go_at_call 104;refine (hS.out _ _ hu2).mono ?_;rintro e w3 ⟨u,rfl,hu3,aJ⟩;obtain ⟨A3,c3,rfl,-⟩:=Un.sh hu3)
  | (go_at_call 107;refine (hA.out _ _ _ (Un.below hu3 ((Ext.refl _).alloc _)) (tV _)).mono ?_;rintro e w4 ⟨u,rfl,D5,aP⟩;obtain ⟨A4,c4,rfl,-⟩:=Un.sh D5))
 go_ret
 exact ⟨_,rfl,D5,(ZQ.below aJ).below (((Ext.refl w3).alloc (.cells #[.int .u32 1] 67)).below aP)⟩
theorem Ku {w X Y:World} {p:Bool} {mp:Value} {s:Int} (h:(w.heap.size+1+1<X.heap.size∧X.cell? ⟨w.heap.size,0,none⟩=some (.bool p)∧X.cell? ⟨w.heap.size,1,none⟩=some mp∧X.cell? ⟨w.heap.size+1,0,none⟩=some (.int .i64 s))∧Ext w X) (k:Ext X Y):(w.heap.size+1+1<Y.heap.size∧Y.cell? ⟨w.heap.size,0,none⟩=some (.bool p)∧Y.cell? ⟨w.heap.size,1,none⟩=some mp∧Y.cell? ⟨w.heap.size+1,0,none⟩=some (.int .i64 s))∧Ext w Y:=by
 obtain ⟨⟨h0,h1,h2,h3⟩,h5⟩:=h
 have hs:=k.size
 exact ⟨⟨by omega,(k.cell (p:=⟨w.heap.size,0,none⟩) (by show w.heap.size<_;omega)).trans h1,(k.cell (p:=⟨w.heap.size,1,none⟩) (by show w.heap.size<_;omega)).trans h2,(k.cell (p:=⟨w.heap.size+1,0,none⟩) (by show w.heap.size+1<_;omega)).trans h3⟩,h5.below k⟩
theorem Fu {w X:World} {p:Bool} {mp x y:Value} {s:Int} (h:(w.heap.size+1+1<X.heap.size∧X.cell? ⟨w.heap.size,0,none⟩=some (.bool p)∧X.cell? ⟨w.heap.size,1,none⟩=some mp∧X.cell? ⟨w.heap.size+1,0,none⟩=some (.int .i64 s))∧Ext w X):(w.heap.size+1+1<((X.setCell ⟨w.heap.size+1+1,0,none⟩ x).setCell ⟨w.heap.size+1+1,1,none⟩ y).heap.size∧((X.setCell ⟨w.heap.size+1+1,0,none⟩ x).setCell ⟨w.heap.size+1+1,1,none⟩ y).cell? ⟨w.heap.size,0,none⟩=some (.bool p)∧((X.setCell ⟨w.heap.size+1+1,0,none⟩ x).setCell ⟨w.heap.size+1+1,1,none⟩ y).cell? ⟨w.heap.size,1,none⟩=some mp∧((X.setCell ⟨w.heap.size+1+1,0,none⟩ x).setCell ⟨w.heap.size+1+1,1,none⟩ y).cell? ⟨w.heap.size+1,0,none⟩=some (.int .i64 s))∧Ext w ((X.setCell ⟨w.heap.size+1+1,0,none⟩ x).setCell ⟨w.heap.size+1+1,1,none⟩ y):=by
 obtain ⟨⟨h0,h1,h2,h3⟩,h5⟩:=h
 have hc:∀ a:Addr,a.block≠w.heap.size+1+1→((X.setCell ⟨w.heap.size+1+1,0,none⟩ x).setCell ⟨w.heap.size+1+1,1,none⟩ y).cell? a=X.cell? a:=fun a ha=>by
  rw [World.cell?_setCell_other _ _ _ _ (fun e=>ha (by rw [← e])),World.cell?_setCell_other _ _ _ _ (fun e=>ha (by rw [← e]))]
 refine ⟨⟨by simpa using h0,?_,?_,?_⟩,h5.bW (by omega) _ _⟩
 · rw [hc _ (by show w.heap.size≠_;omega)];exact h1
 · rw [hc _ (by show w.heap.size≠_;omega)];exact h2
 · rw [hc _ (by show w.heap.size+1≠_;omega)];exact h3
set_option maxRecDepth 100000 in
set_option maxHeartbeats 8000000 in
theorem kH (w:World) (va:Value) (a s:Int) (ha:Zn w va a) (hl:(limbs a.natAbs).length≤1000000) (hs1 : -1000000≤s) (hs2:s≤1000000) (y:Int) (hy:(if 0≤s then a*2^s.toNat else a/2^(-s).toNat)=y) :
  Calls Tryz.prog 65 #[va,.int .i64 s] w fun e w'=>∃ u,e = .returned u∧Zn w' u y∧Ext w w':=by
 have hmf:∀ (fn:Fn) (first cap:Array Value) (w:World),(Instr.makeFunc fn first cap).run Tryz.prog w = .ok (.func fn first cap) w:=fun _ _ _ _=>rfl
 obtain ⟨p,A,L,c,n,rfl,hu,hL,hz,hp,hza,hzn⟩:=ha.open
 rw [hza] at hl
 have hE0:=((((Ext.refl w).alloc (.cells #[.bool p,.slice A L c] 24)).alloc (.cells #[.int .i64 s] 3)).alloc (.cells #[.bool false,.slice none 0 0] 24)).drew
 have hI0:=(Ib.rW w (.cells #[.bool p,.slice A L c] 24) (.cells #[.int .i64 s] 3) false (.slice none 0 0) 24).ext (Ext.refl _).drew
 have gY:=(Ib.new w p (.slice A L c) 24).ext ((((Ext.refl _).alloc (.cells #[.int .i64 s] 3)).alloc (.cells #[.bool false,.slice none 0 0] 24)).drew)
 have hs0:(((w.alloc (.cells #[.bool p,.slice A L c] 24)).alloc (.cells #[.int .i64 s] 3)).alloc (.cells #[.bool false,.slice none 0 0] 24)).drew.cell? ⟨w.heap.size+1,0,none⟩=some (.int .i64 s):=by go_simp
 have hS0:(w.heap.size+1+1<(((w.alloc (.cells #[.bool p,.slice A L c] 24)).alloc (.cells #[.int .i64 s] 3)).alloc (.cells #[.bool false,.slice none 0 0] 24)).drew.heap.size∧(((w.alloc (.cells #[.bool p,.slice A L c] 24)).alloc (.cells #[.int .i64 s] 3)).alloc (.cells #[.bool false,.slice none 0 0] 24)).drew.cell? ⟨w.heap.size,0,none⟩=some (.bool p)∧(((w.alloc (.cells #[.bool p,.slice A L c] 24)).alloc (.cells #[.int .i64 s] 3)).alloc (.cells #[.bool false,.slice none 0 0] 24)).drew.cell? ⟨w.heap.size,1,none⟩=some (.slice A L c)∧(((w.alloc (.cells #[.bool p,.slice A L c] 24)).alloc (.cells #[.int .i64 s] 3)).alloc (.cells #[.bool false,.slice none 0 0] 24)).drew.cell? ⟨w.heap.size+1,0,none⟩=some (.int .i64 s))∧Ext w (((w.alloc (.cells #[.bool p,.slice A L c] 24)).alloc (.cells #[.int .i64 s] 3)).alloc (.cells #[.bool false,.slice none 0 0] 24)).drew:=⟨⟨by simp,gY.2.1,gY.2.2.1,hs0⟩,hE0⟩
 have hu0:=hu.below hE0
 have hN0:w.heap.size+1<(((w.alloc (.cells #[.bool p,.slice A L c] 24)).alloc (.cells #[.int .i64 s] 3)).alloc (.cells #[.bool false,.slice none 0 0] 24)).drew.heap.size:=by simp
 by_cases hneg:0≤s
 · rw [if_pos hneg] at hy
   obtain ⟨t,rfl⟩:=Int.eq_ofNat_of_zero_le hneg
   rw [Int.toNat_natCast,hz,← XE] at hy
   have hSh:=Lib.hid (OZ _ (.slice A L c) n (t:Int) hu0 (by omega) (by omega) (by omega) (n*2^t) (by rw [Int.toNat_natCast]))
   have hM1:=Lib.hid (fun W v (h:Un W v (n*2^t))=>ow W p v (limbs (n*2^t)) h _ (aH _) y hy)
   clear hl hza hzn hz hL ha hu hy hp gY hs0
   go_enter Tryz.func65,Tryz.ntmps65
   go_wp2
   go_region_held3 (fun X=>(w.heap.size+1+1<X.heap.size∧X.cell? ⟨w.heap.size,0,none⟩=some (.bool p)∧X.cell? ⟨w.heap.size,1,none⟩=some (.slice A L c)∧X.cell? ⟨w.heap.size+1,0,none⟩=some (.int .i64 (t:Nat)))∧Ext w X)
    (first
     | assumption
     | exact hS0
     | exact Ku (by assumption) (by assumption)
     | exact Fu (by assumption))
    (first
     | (go_at_call 102;((with_reducible refine hSh.out.mono ?_);rintro e w2 ⟨u,rfl,hu2,hE2⟩;obtain ⟨A2,c2,rfl,-⟩:=Un.sh hu2))
     | (go_at_call 86;((with_reducible refine (hM1.out _ _ hu2).mono ?_);rintro e w3 ⟨u,rfl,hz3,aJ⟩;obtain ⟨b3,A3,L3,c3,rfl⟩:=hz3.sh;have jl:=(hI0.ext hE2).ext aJ;obtain ⟨i0,i1,i2,i3,i4⟩:=id jl)))
   clear jl hSh hM1
   go_wp2
   (try simp only [Exit.inBlock,Exit.then])
   refine bodyPost_ret (v:=.agg #[.bool b3,.slice A3 L3 c3]) (show (results _ _).run _ _=_ from ?_) rfl ⟨_,rfl,hz3.bW ((hI0.ext hE2).ext aJ) (aM _ _ _) _ _,((hE0.below hE2).below aJ).bW (by omega) _ _⟩
   simp only [results]
   go_simp
 · rw [if_neg hneg] at hy
   obtain ⟨t,ht⟩:∃ t:Nat,-s=(t:Int):=⟨(-s).toNat,by omega⟩
   have ht6:t≤1000000:=by omega
   rw [ht,Int.toNat_natCast,hz] at hy
   have hge:¬ (0≤s):=hneg
   cases p
   · rw [← Ur] at hy
     have ZR:=Lib.hid (fun W (hc:W.cell? ⟨w.heap.size+1,0,none⟩=some (.int .i64 s)) h=>XF W (w.heap.size+1) s t ht ht6 hc (.slice A L c) n h hl)
     have hM1:=Lib.hid (fun W v (h:Un W v (n/2^t))=>ow W false v (limbs (n/2^t)) h _ (aH _) y hy)
     have QL:=Lib.hid (ZR.out _ hs0 hu0)
     clear hl hza hzn hz hL ha hu hy hp gY hs0 ht ZR
     go_enter Tryz.func65,Tryz.ntmps65
     go_wp2
     go_region_held3 (fun X=>(w.heap.size+1+1<X.heap.size∧X.cell? ⟨w.heap.size,0,none⟩=some (.bool false)∧X.cell? ⟨w.heap.size,1,none⟩=some (.slice A L c)∧X.cell? ⟨w.heap.size+1,0,none⟩=some (.int .i64 s))∧Ext w X)
      (first
       | assumption
       | exact hS0
       | exact Ku (by assumption) (by assumption)
       | exact Fu (by assumption))
      (first
       | (go_at_call 103;((with_reducible refine QL.out.mono ?_);rintro e w2 ⟨u,rfl,hu2,hE2⟩;obtain ⟨A2,c2,rfl,-⟩:=Un.sh hu2))
       | (go_at_call 86;((with_reducible refine (hM1.out _ _ hu2).mono ?_);rintro e w3 ⟨u,rfl,hz3,aJ⟩;obtain ⟨b3,A3,L3,c3,rfl⟩:=hz3.sh;have jl:=(hI0.ext hE2).ext aJ;obtain ⟨i0,i1,i2,i3,i4⟩:=id jl)))
     clear jl QL hM1
     go_wp2
     (try simp only [Exit.inBlock,Exit.then])
     refine bodyPost_ret (v:=.agg #[.bool b3,.slice A3 L3 c3]) (show (results _ _).run _ _=_ from ?_) rfl ⟨_,rfl,hz3.bW ((hI0.ext hE2).ext aJ) (aM _ _ _) _ _,((hE0.below hE2).below aJ).bW (by omega) _ _⟩
     simp only [results]
     go_simp
   · rw [← Us n t (hp rfl)] at hy
     have ZR:=Lib.hid (fun W (hN:w.heap.size+1<W.heap.size) (hc:W.cell? ⟨w.heap.size+1,0,none⟩=some (.int .i64 s)) h=>XG W (w.heap.size+1) s t ht ht6 hN hc (.slice A L c) n (hp rfl) h hl)
     have hM1:=Lib.hid (fun W v (h:Un W v ((n-1)/2^t+1))=>ow W true v (limbs ((n-1)/2^t+1)) h _ (aH _) y hy)
     have QL:=Lib.hid (ZR.out _ hN0 hs0 hu0)
     clear hl hza hzn hz hL ha hu hy hp gY hs0 ht ZR
     go_enter Tryz.func65,Tryz.ntmps65
     go_wp2
     go_region_held3 (fun X=>(w.heap.size+1+1<X.heap.size∧X.cell? ⟨w.heap.size,0,none⟩=some (.bool true)∧X.cell? ⟨w.heap.size,1,none⟩=some (.slice A L c)∧X.cell? ⟨w.heap.size+1,0,none⟩=some (.int .i64 s))∧Ext w X)
      (first
       | assumption
       | exact hS0
       | exact Ku (by assumption) (by assumption)
       | exact Fu (by assumption))
      (first
       | (go_at_call 105;((with_reducible refine QL.out.mono ?_);rintro e w2 ⟨u,rfl,hu2,hE2⟩;obtain ⟨A2,c2,rfl,-⟩:=Un.sh hu2))
       | (go_at_call 86;((with_reducible refine (hM1.out _ _ hu2).mono ?_);rintro e w3 ⟨u,rfl,hz3,aJ⟩;obtain ⟨b3,A3,L3,c3,rfl⟩:=hz3.sh;have jl:=(hI0.ext hE2).ext aJ;obtain ⟨i0,i1,i2,i3,i4⟩:=id jl)))
     clear jl QL hM1
     go_wp2
     (try simp only [Exit.inBlock,Exit.then])
     refine bodyPost_ret (v:=.agg #[.bool b3,.slice A3 L3 c3]) (show (results _ _).run _ _=_ from ?_) rfl ⟨_,rfl,hz3.bW ((hI0.ext hE2).ext aJ) (aM _ _ _) _ _,((hE0.below hE2).below aJ).bW (by omega) _ _⟩
     simp only [results]
     go_simp
end Go.Proofs.YtdpmbgomcjnohaaGreatDoor
/- Whole numbers: sums and differences. -/
namespace Go.Proofs.YtdpmbgomcjnohaaGreatDoor
open Go.RowKit
set_option linter.unusedVariables false
set_option maxHeartbeats 400000
set_option maxRecDepth 100000 in
set_option maxHeartbeats 4000000 in
theorem ZM (w:World) (b:Bool) (A:Option Addr) (L c n:Nat) (hu:Un w (.slice A L c) n) (vm:Value) (m:Nat) (hv:Un w vm m) (hl:(limbs n).length≤1000000) (hl2:(limbs m).length≤1000000) (y:Int) (hy:sg b (n+m)=y) :
  Calls Tryz.prog 112 #[.agg #[.bool b,.slice A L c],vm] w fun e w'=>∃ u,e = .returned u∧Zn w' u y∧Ext w w':=by
 obtain ⟨A1,c1,rfl,-⟩:=Un.sh hv
 obtain ⟨L1,hL1⟩:∃ L,(limbs m).length=L:=⟨_,rfl⟩
 have hA:=Lib.hid (fun W h g=>QE W (.slice A L c) (.slice A1 (limbs m).length c1) n m h g (by omega) (by omega) _ rfl)
 rw [hL1] at hA hv ⊢
 have hE0:=(((Ext.refl w).alloc (.cells #[.bool b,.slice A L c] 112)).alloc (.cells #[.bool false,.slice none 0 0] 24)).drew
 have hI0:=(Ib.new2 w (.cells #[.bool b,.slice A L c] 112) false (.slice none 0 0) 24).ext (Ext.refl _).drew
 have gY:=(Ib.new w b (.slice A L c) 112).ext ((Ext.refl _).alloc (.cells #[.bool false,.slice none 0 0] 24)).drew
 have hu0:=hu.below hE0
 have hv0:=hv.below hE0
 have hM:=Lib.hid (fun W v h=>ow W b v (limbs (n+m)) h (n+m) (aH _) y hy)
 obtain ⟨p0,p1,p2,p3,p4⟩:=id gY
 clear hy hL1
 go_enter Tryz.func112,Tryz.ntmps112
 go_wp2
 go_region_with (first
  | (go_at_call 107;refine (hA.out _ hu0 hv0).mono ?_;rintro e w2 ⟨u,rfl,hu2,hE2⟩;obtain ⟨A2,c2,rfl,hc2⟩:=Un.sh hu2;obtain ⟨p0,p1,p2,p3,p4⟩:=gY.ext hE2)
  | (go_at_call 86;refine (hM.out _ _ hu2).mono ?_;rintro e w3 ⟨u,rfl,hz3,aJ⟩;obtain ⟨b3,A3,L3,c3,rfl⟩:=hz3.sh;have jl:=(hI0.ext hE2).ext aJ;obtain ⟨i0,i1,i2,i3,i4⟩:=id jl))
 all_goals (
  clear jl hA hM
  go_wp2
  (try simp only [Exit.inBlock,Exit.then])
  refine bodyPost_ret (v:=.agg #[.bool b3,.slice A3 L3 c3]) (show (results _ _).run _ _=_ from ?_) rfl ⟨_,rfl,hz3.bW ((hI0.ext hE2).ext aJ) (aM _ _ _) _ _,((hE0.below hE2).below aJ).bW (by simp) _ _⟩
  simp only [results]
  go_simp)
end Go.Proofs.YtdpmbgomcjnohaaGreatDoor
/- Whole numbers: sums. -/
namespace Go.Proofs.YtdpmbgomcjnohaaGreatDoor
open Go.RowKit
set_option linter.unusedVariables false
set_option maxHeartbeats 400000
set_option maxRecDepth 100000 in
set_option maxHeartbeats 4000000 in
theorem Uk (w:World) (b:Bool) (A:Option Addr) (L c n:Nat) (hu:Un w (.slice A L c) n) (vm:Value) (m:Nat) (hv:Un w vm m) (hl:(limbs n).length≤1000000) (hl2:(limbs m).length≤1000000) (y:Int) (hy:(if m≤n then sg b (n-m) else sg (!b) (m-n))=y) :
  Calls Tryz.prog 113 #[.agg #[.bool b,.slice A L c],vm] w fun e w'=>∃ u,e = .returned u∧Zn w' u y∧Ext w w':=by
 obtain ⟨A1,c1,rfl,-⟩:=Un.sh hv
 obtain ⟨L1,hL1⟩:∃ L,(limbs m).length=L:=⟨_,rfl⟩
 obtain ⟨q,hq⟩:∃ q,decide (m≤n)=q:=⟨_,rfl⟩
 obtain ⟨d,hd⟩:∃ d,n-m=d:=⟨_,rfl⟩
 obtain ⟨d2,hd2⟩:∃ d,m-n=d:=⟨_,rfl⟩
 have hA:=Lib.hid (fun W h g=>Ms W (.slice A L c) (.slice A1 (limbs m).length c1) n m h g (by omega) q hq d hd)
 have hA2:=Lib.hid (fun W h g=>Ms W (.slice A1 (limbs m).length c1) (.slice A L c) m n h g (by omega) _ rfl d2 hd2)
 rw [hL1] at hA hA2 hv ⊢
 rw [hd,hd2] at hy
 have hE0:=((Ext.refl w).alloc (.cells #[.bool b,.slice A L c] 112)).alloc (.cells #[.bool false,.slice none 0 0] 24)
 have hI0:=Ib.new2 w (.cells #[.bool b,.slice A L c] 112) false (.slice none 0 0) 24
 have gY:=(Ib.new w b (.slice A L c) 112).ext ((Ext.refl _).alloc (.cells #[.bool false,.slice none 0 0] 24))
 have hu0:=hu.below hE0
 have hv0:=hv.below hE0
 obtain ⟨p0,p1,p2,p3,p4⟩:=id gY
 by_cases h0:m≤n
 · rw [if_pos h0] at hy
   rw [decide_eq_true h0] at hq
   subst hq
   have hM:=Lib.hid (fun W v h=>ow W b v (limbs d) h d (aH _) y hy)
   clear hy hL1 hA2 hd hd2 h0
   go_enter Tryz.func113,Tryz.ntmps113
   go_wp2_with (first
    | (go_at_call 106;refine (hA.out _ hu0 hv0).mono ?_;rintro e w2 ⟨u,rfl,hu2,hE2⟩;obtain ⟨A2,c2,rfl,hc2⟩:=Un.sh hu2;obtain ⟨p0,p1,p2,p3,p4⟩:=gY.ext hE2)
    | (go_at_call 86;refine (hM.out _ _ hu2).mono ?_;rintro e w3 ⟨u,rfl,hz3,aJ⟩;obtain ⟨b3,A3,L3,c3,rfl⟩:=hz3.sh;have jl:=(hI0.ext hE2).ext aJ;obtain ⟨i0,i1,i2,i3,i4⟩:=id jl))
   (try simp only [Exit.inBlock,Exit.then])
   refine bodyPost_ret (v:=.agg #[.bool b3,.slice A3 L3 c3]) (show (results _ _).run _ _=_ from ?_) rfl ⟨_,rfl,hz3.bW ((hI0.ext hE2).ext aJ) (aM _ _ _) _ _,((hE0.below hE2).below aJ).bW (by simp) _ _⟩
   simp only [results]
   go_simp
 · rw [if_neg h0] at hy
   rw [decide_eq_false h0] at hq
   subst hq
   have hM:=Lib.hid (fun W v h=>ow W (!b) v (limbs d2) h d2 (aH _) y hy)
   clear hy hL1 hd hd2 h0
   go_enter Tryz.func113,Tryz.ntmps113
   go_upto_region 4 with (go_at_call 106;refine (hA.out _ hu0 hv0).mono ?_;rintro e w2 ⟨u,rfl,hu2,hE2⟩;obtain ⟨A2,c2,rfl,hc2⟩:=Un.sh hu2;obtain ⟨p0,p1,p2,p3,p4⟩:=gY.ext hE2)
   go_wp2_with (first
    | (go_at_call 106;refine (hA2.out _ (Un.below hv0 hE2) (Un.below hu0 hE2)).mono ?_;rintro e w4 ⟨u,rfl,D5,aP⟩;obtain ⟨A4,c4,rfl,hc4⟩:=Un.sh D5;obtain ⟨p0,p1,p2,p3,p4⟩:=(gY.ext hE2).ext aP)
    | (go_at_call 86;refine (hM.out _ _ D5).mono ?_;rintro e w3 ⟨u,rfl,hz3,aJ⟩;obtain ⟨b3,A3,L3,c3,rfl⟩:=hz3.sh;have jl:=((hI0.ext hE2).ext aP).ext aJ;obtain ⟨i0,i1,i2,i3,i4⟩:=id jl))
   (try simp only [Exit.inBlock,Exit.then])
   refine bodyPost_ret (v:=.agg #[.bool b3,.slice A3 L3 c3]) (show (results _ _).run _ _=_ from ?_) rfl ⟨_,rfl,hz3.bW (((hI0.ext hE2).ext aP).ext aJ) (aM _ _ _) _ _,(((hE0.below hE2).below aP).below aJ).bW (by simp) _ _⟩
   simp only [results]
   go_simp
theorem mG (b:Bool) (n m:Nat):sg b (n+m)=sg b n+sg b m:=by cases b<;>simp [sg]<;>omega
theorem kW (b:Bool) (n m:Nat):(if m≤n then sg b (n-m) else sg (!b) (m-n))=sg b n+sg (!b) m:=by
 cases b<;>simp only [sg,Bool.not_false,Bool.not_true,if_true,if_false,Bool.false_eq_true]<;>split<;>omega
set_option maxRecDepth 100000 in
set_option maxHeartbeats 4000000 in
theorem XB (w:World) (va vb:Value) (a b:Int) (ha:Zn w va a) (hb:Zn w vb b) (hl:(limbs a.natAbs).length≤1000000) (hl2:(limbs b.natAbs).length≤1000000) (y:Int) (hy:a+b=y) :
  Calls Tryz.prog 74 #[va,vb] w fun e w'=>∃ u,e = .returned u∧Zn w' u y∧Ext w w':=by
 have hmf:∀ (fn:Fn) (first cap:Array Value) (w:World),(Instr.makeFunc fn first cap).run Tryz.prog w = .ok (.func fn first cap) w:=fun _ _ _ _=>rfl
 obtain ⟨p,A,L,c,n,rfl,hu,hL,hz,-,hza,hzn⟩:=ha.open
 obtain ⟨q,B,K,d,m,rfl,hv,hK,hz2,-,jr,lK⟩:=hb.open
 rw [hza] at hl
 rw [jr] at hl2
 have hE0:=(((Ext.refl w).alloc (.cells #[.bool p,.slice A L c] 24)).alloc (.cells #[.bool q,.slice B K d] 24)).alloc (.cells #[.bool false,.slice none 0 0] 24)
 have hI0:=Ib.rW w (.cells #[.bool p,.slice A L c] 24) (.cells #[.bool q,.slice B K d] 24) false (.slice none 0 0) 24
 have hu0:=hu.below hE0
 have hv0:=hv.below hE0
 have hG:=Lib.hid (fun W h g (e:sg p (n+m)=y)=>ZM W p A L c n h (.slice B K d) m g hl hl2 y e)
 have hS:=Lib.hid (fun W h g (e:(if m≤n then sg p (n-m) else sg (!p) (m-n))=y)=>Uk W p A L c n h (.slice B K d) m g hl hl2 y e)
 rw [hz,hz2] at hy
 have HY:=Lib.hid hy
 clear hl hl2 hza hzn jr lK hz hz2 hL hK ha hb hy
 cases p<;>cases q
 case' false.false=>have HC:=Lib.hid (hG.out _ hu0 hv0 ((mG _ _ _).trans HY.out))
 case' true.true=>have HC:=Lib.hid (hG.out _ hu0 hv0 ((mG _ _ _).trans HY.out))
 case' true.false=>have HC:=Lib.hid (hS.out _ hu0 hv0 ((kW _ _ _).trans HY.out))
 case' false.true=>have HC:=Lib.hid (hS.out _ hu0 hv0 ((kW _ _ _).trans HY.out))
 all_goals (
  clear hG hS
  go_enter Tryz.func74,Tryz.ntmps74
  go_wp2_with (first
   | (go_at_call 112;refine HC.out.mono ?_;rintro e w3 ⟨u,rfl,hz3,aJ⟩;obtain ⟨b3,A3,L3,c3,rfl⟩:=hz3.sh;have jl:=hI0.ext aJ;obtain ⟨i0,i1,i2,i3,i4⟩:=id jl)
   | (go_at_call 113;refine HC.out.mono ?_;rintro e w3 ⟨u,rfl,hz3,aJ⟩;obtain ⟨b3,A3,L3,c3,rfl⟩:=hz3.sh;have jl:=hI0.ext aJ;obtain ⟨i0,i1,i2,i3,i4⟩:=id jl))
  (try simp only [Exit.inBlock,Exit.then])
  refine bodyPost_ret (v:=.agg #[.bool b3,.slice A3 L3 c3]) (show (results _ _).run _ _=_ from ?_) rfl ⟨_,rfl,hz3.bW (hI0.ext aJ) (aM _ _ _) _ _,(hE0.below aJ).bW (by omega) _ _⟩
  simp only [results]
  go_simp)
end Go.Proofs.YtdpmbgomcjnohaaGreatDoor
