/- Base. -/
import Derived.Test.YtgcieamfidoaoaaGreatDoorGav
set_option linter.all false
set_option maxHeartbeats 8000000
namespace Go.Proofs.YtgcieamfidoaoaaGreatDoor
open Go.Proofs.Tryz
open Go.RowKit
section
set_option maxRecDepth 100000
theorem ZK (a b:Int):a%b=0↔a.natAbs%b.natAbs=0:=by rw [← Int.dvd_iff_emod_eq_zero,← Nat.dvd_iff_mod_eq_zero,Int.natAbs_dvd_natAbs]
theorem Ob (w:World) (va vb:Value) (a b:Int) (ha:Zn w va a) (hb:Zn w vb b) (hl:(limbs a.natAbs).length≤1000) (hl2:(limbs b.natAbs).length≤1000) (h0:b≠0) (hr:a%b=0) (x:Int) (hx:a/b=x) :Calls prog 165 #[va,vb] w fun e w'=>∃ u,e = .returned (.tuple #[u,.bool true])∧Zn w' u x∧Ext w w':=by
 have hab:=ZK a b;obtain ⟨p,A,L,c,n,rfl,hu,hL,hz,-,hza,hzn⟩:=ha.open;obtain ⟨q,B,K,d,m,rfl,hv,hK,hz2,-,lH,pR⟩:=hb.open;rw [hza,lH] at hab;rw [hza] at hl;rw [lH] at hl2;have hR:n%m=0:=hab.1 hr;have hm0:m≠0:=by omega
 have k1:=(CG p q n m hm0 (.inr hR)).1;rw [← hz,← hz2,hx] at k1;have hE0:=(((Ext.refl w).alloc (.cells #[.bool p,.slice A L c] 34)).alloc (.cells #[.bool q,.slice B K d] 34)).alloc (.cells #[.bool false,.slice none 0 0] 34);have hI0:=Ib.wP w (.cells #[.bool p,.slice A L c] 34) (.cells #[.bool q,.slice B K d] 34) false (.slice none 0 0) 34;have ou:=(Ib.new w p (.slice A L c) 34).ext (((Ext.refl _).alloc (.cells #[.bool q,.slice B K d] 34)).alloc (.cells #[.bool false,.slice none 0 0] 34));have nL:=(Ib.new2 w (.cells #[.bool p,.slice A L c] 34) q (.slice B K d) 34).ext ((Ext.refl _).alloc (.cells #[.bool false,.slice none 0 0] 34));obtain ⟨Q,hQ⟩:∃ Q,n/m=Q:=⟨_,rfl⟩;have hD:=Lib.hid (wE _ (.slice A L c) (.slice B K d) n m Q 0 (hu.below hE0) (hv.below hE0) hl hl2 hm0 hQ hR);rw [hQ] at k1;have hM1:=Lib.hid (fun W v (h:Un W v Q)=>l5 W (!(p==q)) v (limbs Q) h Q (aM _) x k1);have HL0:Hid ((limbs 0).length=0):=by show _=_;rw [bF];rfl
 clear hl hl2 hza hzn lH pR hz hz2 hL hK ha hb hu hv h0 hab hR hr hm0 hQ k1 hx;unfold Dv at hD;go_enter func165,ntmps165
 go_wp2_with (first
  | (go_at_call 143;refine hD.out.mono ?_;rintro e w2 ⟨⟨vq,vr,rfl,Au,Ir⟩,hE2⟩;obtain ⟨A2,c2,rfl,-⟩:=Un.sh Au;obtain ⟨A3,c3,rfl,-⟩:=Un.sh Ir;rw [HL0.out] at Ir ⊢;obtain ⟨p0,p1,p2,p3,p4⟩:=ou.ext hE2;obtain ⟨q0,q1,q2,q3,q4⟩:=nL.ext hE2)
  | (go_at_call 49;refine (hM1.out _ _ Au).mono ?_;rintro e w3 ⟨u,rfl,hz3,fV⟩;obtain ⟨b3,A4,L3,c4,rfl⟩:=hz3.sh;have nJ:=(hI0.ext hE2).ext fV;obtain ⟨i0,i1,i2,i3,i4⟩:=id nJ))
 (try simp only [Exit.inBlock,Exit.then])
 refine bodyPost_ret (v:=.tuple #[.agg #[.bool b3,.slice A4 L3 c4],.bool true]) (show (results _ _).run _ _=_ from ?_) rfl ⟨_,rfl,hz3.gB nJ (bD _ _ _) _ _,((hE0.below hE2).below fV).gB (by omega) _ _⟩;simp only [results];go_simp
end
theorem ac1 (p:Bool) (n k:Nat):sg p (n*2^k)=sg p n*2^k:=by
 have e:((n*2^k:Nat):Int)=(n:Int)*2^k:=by rw [Int.natCast_mul,Int.natCast_pow];rfl
 cases p
 · exact e
 · show -((n*2^k:Nat):Int) = -(n:Int)*2^k;grind
theorem ZL (n k:Nat):sg false (n/2^k)=sg false n/2^k:=by show ((n/2^k:Nat):Int)=(n:Int)/2^k;grind
theorem ZM (n k:Nat) (h:n≠0):sg true ((n-1)/2^k+1)=sg true n/2^k:=by
 have hP:0<2^k:=Nat.two_pow_pos k;have e:(2:Int)^k=((2^k:Nat):Int):=by rw [Int.natCast_pow];rfl
 rw [e];have e1:=Nat.div_add_mod (n-1) (2^k);have e2:=Nat.mod_lt (n-1) hP;generalize (n-1)/2^k=d at *;generalize (n-1)%2^k=r at *;generalize 2^k=P at *;have e3:(P:Int) * -((d+1:Nat):Int) = -((P:Int)*(d:Int))-(P:Int):=by rw [Int.natCast_add,Int.mul_neg,Int.mul_add];omega
 have e4:((P*d:Nat):Int)=(P:Int)*(d:Int):=Int.natCast_mul _ _;have:=(Int.ediv_emod_unique (a := -(n:Int)) (b:=(P:Int)) (q := -((d+1:Nat):Int)) (r:=(P:Int)-1-(r:Int)) (by omega)).2 ⟨by rw [e3,← e4];omega,by omega,by omega⟩;exact this.1.symm
set_option maxRecDepth 100000 in
theorem ac2 (w:World) (N:Nat) (s:Int) (t:Nat) (hs : -s=(t:Int)) (ht:t≤1000000) (hc:w.cell? ⟨N,0,none⟩=some (.int .i64 s)) (v:Value) (n:Nat) (hu:Un w v n) (hl:(limbs n).length≤1000000) :A0l 144 #[v,A0a N] w (n/2^t):=by have hS:=Lib.hid (Ud w v n (t:Int) hu (by omega) (by omega) (by omega) _ rfl);have ht2:t≤1000000:=ht;clear hl hu;go_enter func144,ntmps144;go_wp2_with (go_at_call 145;refine hS.out.mono ?_;rintro e w2 ⟨u,rfl,hu2,hE2⟩;obtain ⟨A2,c2,rfl,-⟩:=Un.sh hu2);go_ret;exact ⟨_,rfl,hu2,hE2⟩
set_option maxRecDepth 100000 in
theorem ac3 (w:World) (N:Nat) (s:Int) (t:Nat) (hs : -s=(t:Int)) (ht:t≤1000000) (hN:N<w.heap.size) (hc:w.cell? ⟨N,0,none⟩=some (.int .i64 s)) (v:Value) (n:Nat) (hn:n≠0) (hu:Un w v n) (hl:(limbs n).length≤1000000) :A0l 146 #[v,A0a N] w ((n-1)/2^t+1):=by
 have hl2:(limbs (n-1)).length≤1000000:=Nat.le_trans (iK (by omega)) hl;have hl3:(limbs ((n-1)/2^t)).length≤1000000:=Nat.le_trans (iK (Nat.div_le_self _ _)) hl2;have hSb:=Lib.hid (fun W h g=>Qd W v (.slice (some ⟨w.heap.size,0,none⟩) 1 1) n 1 h g (by omega) true (decide_eq_true (by omega)) (n-1) rfl);have hS:=Lib.hid (fun W u h=>Ud W u (n-1) (t:Int) h (by omega) (by omega) (by omega) ((n-1)/2^t) (by rw [Int.toNat_natCast]));have hA:=Lib.hid (fun W u x h g=>LG W u x ((n-1)/2^t) 1 h g (by omega) Ll _ rfl);have ht2:t≤1000000:=ht;clear hl hl2 hl3;go_enter func146,ntmps146
 go_wp2_with (first
  | (go_at_call 140;refine (hSb.out _ (Un.below hu ((Ext.refl _).alloc _)) (yg _)).mono ?_;rintro e w2 ⟨u,rfl,hu2,hE2⟩;obtain ⟨A2,c2,rfl,-⟩:=Un.sh hu2;have af7:=((Ext.refl w).alloc (.cells #[.int .u32 1] 57)).below hE2;have hc2:=(af7.cell (p:=⟨N,0,none⟩) hN).trans hc)
  | (go_at_call 145;refine (hS.out _ _ hu2).mono ?_;rintro e w3 ⟨u,rfl,hu3,fV⟩;obtain ⟨A3,c3,rfl,-⟩:=Un.sh hu3)
  | (go_at_call 73;refine (hA.out _ _ _ (Un.below hu3 ((Ext.refl _).alloc _)) (yg _)).mono ?_;rintro e w4 ⟨u,rfl,LY,jI⟩;obtain ⟨A4,c4,rfl,-⟩:=Un.sh LY))
 go_ret;exact ⟨_,rfl,LY,(af7.below fV).below (((Ext.refl w3).alloc (.cells #[.int .u32 1] 57)).below jI)⟩
theorem OL {w X Y:World} {p:Bool} {mp:Value} {s:Int} (h:(w.heap.size+1+1<X.heap.size∧X.cell? ⟨w.heap.size,0,none⟩=some (.bool p)∧X.cell? ⟨w.heap.size,1,none⟩=some mp∧X.cell? ⟨w.heap.size+1,0,none⟩=some (.int .i64 s))∧Ext w X) (k:Ext X Y):(w.heap.size+1+1<Y.heap.size∧Y.cell? ⟨w.heap.size,0,none⟩=some (.bool p)∧Y.cell? ⟨w.heap.size,1,none⟩=some mp∧Y.cell? ⟨w.heap.size+1,0,none⟩=some (.int .i64 s))∧Ext w Y:=by obtain ⟨⟨h0,h1,h2,h3⟩,h5⟩:=h;have hs:=k.size;exact ⟨⟨by omega,(k.cell (p:=⟨w.heap.size,0,none⟩) (by show w.heap.size<_;omega)).trans h1,(k.cell (p:=⟨w.heap.size,1,none⟩) (by show w.heap.size<_;omega)).trans h2,(k.cell (p:=⟨w.heap.size+1,0,none⟩) (by show w.heap.size+1<_;omega)).trans h3⟩,h5.below k⟩
theorem Ka {w X:World} {p:Bool} {mp x y:Value} {s:Int} (h:(w.heap.size+1+1<X.heap.size∧X.cell? ⟨w.heap.size,0,none⟩=some (.bool p)∧X.cell? ⟨w.heap.size,1,none⟩=some mp∧X.cell? ⟨w.heap.size+1,0,none⟩=some (.int .i64 s))∧Ext w X):(w.heap.size+1+1<((X.setCell ⟨w.heap.size+1+1,0,none⟩ x).setCell ⟨w.heap.size+1+1,1,none⟩ y).heap.size∧((X.setCell ⟨w.heap.size+1+1,0,none⟩ x).setCell ⟨w.heap.size+1+1,1,none⟩ y).cell? ⟨w.heap.size,0,none⟩=some (.bool p)∧((X.setCell ⟨w.heap.size+1+1,0,none⟩ x).setCell ⟨w.heap.size+1+1,1,none⟩ y).cell? ⟨w.heap.size,1,none⟩=some mp∧((X.setCell ⟨w.heap.size+1+1,0,none⟩ x).setCell ⟨w.heap.size+1+1,1,none⟩ y).cell? ⟨w.heap.size+1,0,none⟩=some (.int .i64 s))∧Ext w ((X.setCell ⟨w.heap.size+1+1,0,none⟩ x).setCell ⟨w.heap.size+1+1,1,none⟩ y):=by
 obtain ⟨⟨h0,h1,h2,h3⟩,h5⟩:=h;have hc:∀ a:Addr,a.block≠w.heap.size+1+1→((X.setCell ⟨w.heap.size+1+1,0,none⟩ x).setCell ⟨w.heap.size+1+1,1,none⟩ y).cell? a=X.cell? a:=fun a ha=>by rw [World.cell?_setCell_other _ _ _ _ (fun e=>ha (by rw [← e])),World.cell?_setCell_other _ _ _ _ (fun e=>ha (by rw [← e]))]
 refine ⟨⟨by simpa using h0,?_,?_,?_⟩,h5.gB (by omega) _ _⟩
 · grind
 · grind
 grind
set_option maxRecDepth 100000 in
theorem Uy (w:World) (va:Value) (a s:Int) (ha:Zn w va a) (hl:(limbs a.natAbs).length≤1000000) (hs1 : -1000000≤s) (hs2:s≤1000000) (y:Int) (hy:(if 0≤s then a*2^s.toNat else a/2^(-s).toNat)=y) :A0m 122 #[va,.int .i64 s] w y:=by
 have hmf:∀ (fn:Fn) (first cap:Array Value) (w:World),(Instr.makeFunc fn first cap).run prog w = .ok (.func fn first cap) w:=fun _ _ _ _=>rfl;obtain ⟨p,A,L,c,n,rfl,hu,hL,hz,hp,hza,hzn⟩:=ha.open;rw [hza] at hl;have hE0:=((((Ext.refl w).alloc (.cells #[.bool p,.slice A L c] 34)).alloc (.cells #[.int .i64 s] 3)).alloc (.cells #[.bool false,.slice none 0 0] 34)).drew;have hI0:=(Ib.wP w (.cells #[.bool p,.slice A L c] 34) (.cells #[.int .i64 s] 3) false (.slice none 0 0) 34).ext (Ext.refl _).drew;have ou:=(Ib.new w p (.slice A L c) 34).ext ((((Ext.refl _).alloc (.cells #[.int .i64 s] 3)).alloc (.cells #[.bool false,.slice none 0 0] 34)).drew);have hs0:(((w.alloc (.cells #[.bool p,.slice A L c] 34)).alloc (.cells #[.int .i64 s] 3)).alloc (.cells #[.bool false,.slice none 0 0] 34)).drew.cell? ⟨w.heap.size+1,0,none⟩=some (.int .i64 s):=by go_simp
 have hS0:(w.heap.size+1+1<(((w.alloc (.cells #[.bool p,.slice A L c] 34)).alloc (.cells #[.int .i64 s] 3)).alloc (.cells #[.bool false,.slice none 0 0] 34)).drew.heap.size∧(((w.alloc (.cells #[.bool p,.slice A L c] 34)).alloc (.cells #[.int .i64 s] 3)).alloc (.cells #[.bool false,.slice none 0 0] 34)).drew.cell? ⟨w.heap.size,0,none⟩=some (.bool p)∧(((w.alloc (.cells #[.bool p,.slice A L c] 34)).alloc (.cells #[.int .i64 s] 3)).alloc (.cells #[.bool false,.slice none 0 0] 34)).drew.cell? ⟨w.heap.size,1,none⟩=some (.slice A L c)∧(((w.alloc (.cells #[.bool p,.slice A L c] 34)).alloc (.cells #[.int .i64 s] 3)).alloc (.cells #[.bool false,.slice none 0 0] 34)).drew.cell? ⟨w.heap.size+1,0,none⟩=some (.int .i64 s))∧Ext w (((w.alloc (.cells #[.bool p,.slice A L c] 34)).alloc (.cells #[.int .i64 s] 3)).alloc (.cells #[.bool false,.slice none 0 0] 34)).drew:=⟨⟨by simp,ou.2.1,ou.2.2.1,hs0⟩,hE0⟩;have hu0:=hu.below hE0;have hN0:w.heap.size+1<(((w.alloc (.cells #[.bool p,.slice A L c] 34)).alloc (.cells #[.int .i64 s] 3)).alloc (.cells #[.bool false,.slice none 0 0] 34)).drew.heap.size:=by simp
 by_cases hneg:0≤s
 · rw [if_pos hneg] at hy;obtain ⟨t,rfl⟩:=Int.eq_ofNat_of_zero_le hneg;rw [Int.toNat_natCast,hz,← ac1] at hy;have hSh:=Lib.hid (EG _ (.slice A L c) n (t:Int) hu0 (by omega) (by omega) (by omega) (n*2^t) (by rw [Int.toNat_natCast]));have hM1:=Lib.hid (fun W v (h:Un W v (n*2^t))=>l5 W p v (limbs (n*2^t)) h _ (aM _) y hy);clear hl hza hzn hz hL ha hu hy hp ou hs0;go_enter func122,ntmps122;go_wp2
   go_region_held3 (fun X=>(w.heap.size+1+1<X.heap.size∧X.cell? ⟨w.heap.size,0,none⟩=some (.bool p)∧X.cell? ⟨w.heap.size,1,none⟩=some (.slice A L c)∧X.cell? ⟨w.heap.size+1,0,none⟩=some (.int .i64 (t:Nat)))∧Ext w X)
    (first
     | assumption
     | exact hS0
     | exact OL (by assumption) (by assumption)
     | exact Ka (by assumption))
    (first
     | (go_at_call 88;((with_reducible refine hSh.out.mono ?_);rintro e w2 ⟨u,rfl,hu2,hE2⟩;obtain ⟨A2,c2,rfl,-⟩:=Un.sh hu2))
     | (go_at_call 49;((with_reducible refine (hM1.out _ _ hu2).mono ?_);rintro e w3 ⟨u,rfl,hz3,fV⟩;obtain ⟨b3,A3,L3,c3,rfl⟩:=hz3.sh;have nJ:=(hI0.ext hE2).ext fV;obtain ⟨i0,i1,i2,i3,i4⟩:=id nJ)))
   clear nJ hSh hM1;go_wp2
   (try simp only [Exit.inBlock,Exit.then])
   refine bodyPost_ret (v:=.agg #[.bool b3,.slice A3 L3 c3]) (show (results _ _).run _ _=_ from ?_) rfl ⟨_,rfl,hz3.gB ((hI0.ext hE2).ext fV) (bD _ _ _) _ _,((hE0.below hE2).below fV).gB (by omega) _ _⟩;simp only [results];go_simp
 · rw [if_neg hneg] at hy;obtain ⟨t,ht⟩:∃ t:Nat,-s=(t:Int):=⟨(-s).toNat,by omega⟩;have ht6:t≤1000000:=(by omega);rw [ht,Int.toNat_natCast,hz] at hy;have hge:¬ (0≤s):=hneg;cases p
   · rw [← ZL] at hy;have hC1:=Lib.hid (fun W (hc:W.cell? ⟨w.heap.size+1,0,none⟩=some (.int .i64 s)) h=>ac2 W (w.heap.size+1) s t ht ht6 hc (.slice A L c) n h hl);have hM1:=Lib.hid (fun W v (h:Un W v (n/2^t))=>l5 W false v (limbs (n/2^t)) h _ (aM _) y hy);have WA:=Lib.hid (hC1.out _ hs0 hu0);clear hl hza hzn hz hL ha hu hy hp ou hs0 ht hC1;go_enter func122,ntmps122;go_wp2
     go_region_held3 (fun X=>(w.heap.size+1+1<X.heap.size∧X.cell? ⟨w.heap.size,0,none⟩=some (.bool false)∧X.cell? ⟨w.heap.size,1,none⟩=some (.slice A L c)∧X.cell? ⟨w.heap.size+1,0,none⟩=some (.int .i64 s))∧Ext w X)
      (first
       | assumption
       | exact hS0
       | exact OL (by assumption) (by assumption)
       | exact Ka (by assumption))
      (first
       | (go_at_call 144;((with_reducible refine WA.out.mono ?_);rintro e w2 ⟨u,rfl,hu2,hE2⟩;obtain ⟨A2,c2,rfl,-⟩:=Un.sh hu2))
       | (go_at_call 49;((with_reducible refine (hM1.out _ _ hu2).mono ?_);rintro e w3 ⟨u,rfl,hz3,fV⟩;obtain ⟨b3,A3,L3,c3,rfl⟩:=hz3.sh;have nJ:=(hI0.ext hE2).ext fV;obtain ⟨i0,i1,i2,i3,i4⟩:=id nJ)))
     clear nJ WA hM1;go_wp2
     (try simp only [Exit.inBlock,Exit.then])
     refine bodyPost_ret (v:=.agg #[.bool b3,.slice A3 L3 c3]) (show (results _ _).run _ _=_ from ?_) rfl ⟨_,rfl,hz3.gB ((hI0.ext hE2).ext fV) (bD _ _ _) _ _,((hE0.below hE2).below fV).gB (by omega) _ _⟩;simp only [results];go_simp
   · rw [← ZM n t (hp rfl)] at hy;have hC1:=Lib.hid (fun W (hN:w.heap.size+1<W.heap.size) (hc:W.cell? ⟨w.heap.size+1,0,none⟩=some (.int .i64 s)) h=>ac3 W (w.heap.size+1) s t ht ht6 hN hc (.slice A L c) n (hp rfl) h hl);have hM1:=Lib.hid (fun W v (h:Un W v ((n-1)/2^t+1))=>l5 W true v (limbs ((n-1)/2^t+1)) h _ (aM _) y hy);have WA:=Lib.hid (hC1.out _ hN0 hs0 hu0);clear hl hza hzn hz hL ha hu hy hp ou hs0 ht hC1;go_enter func122,ntmps122;go_wp2
     go_region_held3 (fun X=>(w.heap.size+1+1<X.heap.size∧X.cell? ⟨w.heap.size,0,none⟩=some (.bool true)∧X.cell? ⟨w.heap.size,1,none⟩=some (.slice A L c)∧X.cell? ⟨w.heap.size+1,0,none⟩=some (.int .i64 s))∧Ext w X)
      (first
       | assumption
       | exact hS0
       | exact OL (by assumption) (by assumption)
       | exact Ka (by assumption))
      (first
       | (go_at_call 146;((with_reducible refine WA.out.mono ?_);rintro e w2 ⟨u,rfl,hu2,hE2⟩;obtain ⟨A2,c2,rfl,-⟩:=Un.sh hu2))
       | (go_at_call 49;((with_reducible refine (hM1.out _ _ hu2).mono ?_);rintro e w3 ⟨u,rfl,hz3,fV⟩;obtain ⟨b3,A3,L3,c3,rfl⟩:=hz3.sh;have nJ:=(hI0.ext hE2).ext fV;obtain ⟨i0,i1,i2,i3,i4⟩:=id nJ)))
     clear nJ WA hM1;go_wp2
     (try simp only [Exit.inBlock,Exit.then])
     refine bodyPost_ret (v:=.agg #[.bool b3,.slice A3 L3 c3]) (show (results _ _).run _ _=_ from ?_) rfl ⟨_,rfl,hz3.gB ((hI0.ext hE2).ext fV) (bD _ _ _) _ _,((hE0.below hE2).below fV).gB (by omega) _ _⟩;simp only [results];go_simp
