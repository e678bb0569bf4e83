/- The document's division, walked. -/
import Derived.Test.YtgcieamfidoaoaaGreatDoorEaw
import Derived.Test.YtgcieamfidoaoaaGreatDoorEav
import Derived.Test.YtgcieamfidoaoaaGreatDoorEat
import Derived.Test.YtgcieamfidoaoaaGreatDoorEau
import Derived.Test.YtgcieamfidoaoaaGreatDoorEac
import Derived.Laws.IdiomArrays
import Derived.WideKeyPair
import Derived.WideKeyArr2
import Derived.Scope
set_option linter.all false
set_option maxHeartbeats 8000000
namespace Go.Proofs.YtgcieamfidoaoaaGreatDoor
open Go.RowKit
set_option maxRecDepth 100000 in
theorem sI (w:World) (va vb:Value) (a b q r:Nat) (qU:Un w va a) (rX:Un w vb b) (hla:(limbs a).length≤200) (hlb:(limbs b).length≤200) (h0b:b≠0) (hq:a/b=q) (hr:a%b=r) :
  Calls Tryz.prog 91 #[va,vb] w fun e w'=>Dv w w' e q r:=by
 unfold Dv
 have HB:=Ext.refl w
 have aaC:=Ht h0b
 have HLB:=Lib.hid hlb
 obtain ⟨Ab,cb,rfl,hcb⟩:=U.shape (U.dX rX)
 obtain ⟨Aa,ca,rfl,hca⟩:=U.shape (U.dX qU)
 obtain ⟨Lb,hLb⟩:∃ Lb,(limbs b).length=Lb:=⟨_,rfl⟩
 obtain ⟨La,hLa⟩:∃ La,(limbs a).length=La:=⟨_,rfl⟩
 obtain ⟨bl,hbl⟩:∃ bl,bJ a=bl:=⟨_,rfl⟩
 rw [hLb] at rX hlb aaC ⊢
 rw [hLa] at qU hla ⊢
 have hL0:((Lb:Int)==0)=false:=by rw [beq_eq_false_iff_ne];omega
 have hL1:¬ Lb=0:=by omega
 have Hz:bl≤32*La:=by rw [← hbl,← hLa];exact zQ a
 have Eg:=Lib.hid (fun W (h:Un W (.slice Aa La ca) a)=>TZ W _ a h (by omega) (bl:Int) (by rw [hbl]))
 have T9:=Lib.hid (fun W (j:Nat) (hj:j≤10000) k (hk:a/2^j%2=k) (h:Un W (.slice Aa La ca) a)=>XT W _ a (j:Int) h (by omega) (by omega) (k:Int) (by rw [PW,hk]))
 have HS0:Hid (EZ a b La bl (List.replicate La 0)):=by
  refine ⟨by simp,by simp,?_⟩
  rw [dM,Nat.div_eq_of_lt (show a<2^bl by rw [← hbl];exact iZ a),Nat.zero_div,Nat.zero_mul]
 have ZT:Hid (a/2^bl%b=0):=by rw [Hid,Nat.div_eq_of_lt (show a<2^bl by rw [← hbl];exact iZ a),Nat.zero_mod]
 have Tv:Hid (∀ o,EZ a b La 0 o→val o=q):=fun o h=>by
  have:=h.val
  rwa [Nat.pow_zero,Nat.div_one,Nat.mul_one,hq] at this
 have HDR:Hid (∀ r',a/2^0%b=r'→r'=r):=fun r' h=>by
  rw [Nat.pow_zero,Nat.div_one,hr] at h;exact h.symm
 have HB0:=Lib.hid (show 0<b by omega)
 have Pt:Hid (∀ x,x≤2*b+1→(limbs x).length≤300):=fun x h=>by
  have h1:(limbs b).length≤200:=by omega
  have h2:=LU h1 h1
  have h3:(limbs 1).length≤1:=by rw [lG 1 (by decide) (by decide)];simp
  have h4:=LU h2 h3
  exact Nat.le_trans (jr (show x≤b+b+1 by omega)) (Nat.le_trans h4 (by decide))
 obtain ⟨i0,hi,hz0,hz1,hz2⟩:=info_parts oJ
 obtain ⟨B,hB⟩:∃ B,w.heap.size=B:=⟨_,rfl⟩
 have yM:=Lib.hid hB
 clear hLb hLa hbl hq hr hcb hca aaC h0b
 have ha0:=qU
 have hb0:=rX
 go_enter Tryz.func91,Tryz.ntmps91
 go_wp2_with (at_make;refine wpList_make_full _ rfl _ _ 24 rfl w.heap.size 57 i0 (.int .u32 0) 1 Tryz.underlying24 hi hz0 hz1 _ _ _ _ La rfl rfl (by omega) (by omega) (by rw [hz2];omega) (by unfold maxLen;omega) (Nat.le_refl _) ?_;intro w1 hown hgrow)
 have ho0:Own w1 w.heap.size (.slice (some ⟨w.heap.size,0,none⟩) La La) (List.replicate La 0):=by
  have:=Own.zeros hown
  rwa [List.length_replicate] at this
 have hE0:Ext w w1:=(Ext.refl w).grown hgrow (Nat.le_refl _) (fun _ h=>by cases h)
 rw [hB] at ho0
 replace qU:=U.below (U.dX qU) hE0
 replace rX:=U.below (U.dX rX) hE0
 clear hown hgrow hi hz0 hz1 hz2 i0 HB
 have hwB:=ho0.block.2
 go_wp2_with (fail)
 refine (Eg.out _ (U.alloc (U.dX qU) _)).mono ?_
 rintro e w2 ⟨rfl,hB2⟩
 have hR0:Un w2 (.slice (some ⟨w1.heap.size,0,none⟩) 0 0) 0:=U.un (U.yX _ _ _) aX
 have hF0:wh (B+1) (.slice (some ⟨w1.heap.size,0,none⟩) 0 0):=fun ad n c e=>by
  injection e with e1 _ _
  injection e1 with e1
  subst e1
  exact hwB
 replace ho0:=(ho0.alloc (.cells #[] 57)).ext hB2
 replace hE0:=(hE0.alloc (.cells #[] 57)).below hB2
 replace qU:=U.below (U.alloc (U.dX qU) _) hB2
 replace rX:=U.below (U.alloc (U.dX rX) _) hB2
 clear hB2 hwB Eg
 go_wp2
 go_loopw [8,9] (fun s8 s9 wr=>∃ (j:Nat) (z:Int) (R:Nat) (o:List Nat),j≤bl∧s9 = .int .i64 z∧z=(j:Int)-1∧Un wr s8 R∧wh (B+1) s8∧Hid (a/2^j%b=R)∧Hid (EZ a b La j o)∧Own wr B (.slice (some ⟨B,0,none⟩) La La) o∧Ext w wr) (fun _ s9 _=>(intOf s9+1).toNat)
 case atStart=>exact ⟨bl,_,0,_,Nat.le_refl _,rfl,rfl,hR0,hF0,ZT,HS0,ho0,hE0⟩
 case round =>
  clear hR0 hF0 ZT HS0 ho0 qU rX hE0
  obtain ⟨j,z,R,o,hj,rfl,hz,hR,hf,PX,HO,hown,hE⟩:=hrel
  have qU:=U.below (U.dX ha0) hE
  have rX:=U.below (U.dX hb0) hE
  cases j with
  | zero =>
   obtain rfl:z = -1:=by omega
   obtain rfl:=HDR.out R PX.out
   have hu:=hown.BJ HO.out.lt (by rw [HO.out.len];omega)
   have hlo:=HO.out.len
   have HM1:=Lib.hid (Bd _ _ o hu (by omega) q (Tv.out o HO.out))
   have HM2:=Lib.hid (fun W (h:Un W u8 R)=>Bd W _ (limbs R) h (by have:=Pt.out R (by have:=PX.out;have:=Nat.mod_lt (a/2^0) HB0.out;omega);omega) R (aJ R))
   clear hu hlo hown HO Tv HDR hz qU rX Pt hf
   go_wp2_with (fail)
   refine HM1.out.mono ?_
   rintro e w3 ⟨v3,rfl,hv3,hB3⟩
   replace hR:=U.below (U.dX hR) hB3
   replace hE:=hE.below hB3
   clear hB3 HM1
   go_wp2_with (fail)
   refine (HM2.out _ hR).mono ?_
   rintro e w4 ⟨v4,rfl,hv4,hB4⟩
   replace hE:=hE.below hB4
   have HF:Hid (∃ x' y',Ending.returned (.tuple #[v3,v4,.int .i64 0]) = .returned (.tuple #[x',y',.int .i64 0])∧Un w4 x' q∧Un w4 y' R):=⟨_,_,rfl,U.below (U.dX hv3) hB4,hv4⟩
   clear hB4 HM2 hv3 hv4 hR
   go_wp2
   go_ret3
   exact ⟨HF.out,hE⟩
  | succ j =>
   obtain rfl:z=(j:Int):=by omega
   clear hz
   have hwr:=hown.block.2
   have hRb:R<b:=by rw [← PX.out];exact Nat.mod_lt _ HB0.out
   obtain ⟨R1,Ua⟩:∃ R1,R*2^1=R1:=⟨_,rfl⟩
   have HR1:=Lib.hid Ua
   have hj2:j≤10000:=by omega
   obtain ⟨k,hk⟩:∃ k,j/32=k:=⟨_,rfl⟩
   obtain ⟨s,hs⟩:∃ s,j%32=s:=⟨_,rfl⟩
   obtain ⟨P,hP⟩:∃ P,2^s=P:=⟨_,rfl⟩
   obtain ⟨x,hxe⟩:∃ x,lb o k=x:=⟨_,rfl⟩
   have hkl:k<La:=by omega
   have H6:k<o.length:=by rw [HO.out.len];exact hkl
   have k1:(j:Int)/32=(k:Int):=by omega
   have k2:(j:Int).tdiv 32=(k:Int):=by rw [Int.tdiv_eq_ediv_of_nonneg (Int.natCast_nonneg _)];exact k1
   have k3:(j:Int)%32=(s:Int):=by omega
   have k4:(j:Int).tmod 32=(s:Int):=by rw [Int.tmod_eq_emod_of_nonneg (Int.natCast_nonneg _)];exact k3
   have k5:(0:Int)≤(k:Int):=Int.natCast_nonneg k
   have k6:(k:Int)<(La:Int):=by omega
   have k7:(0:Int)≤(s:Int):=Int.natCast_nonneg s
   have k8:=xk (show k≤1000000 by omega)
   have k9:=xk (show s≤1000000 by omega)
   have hPb:P≤2147483648:=by
    rw [← hP]
    show 2^s≤2^31
    exact Nat.pow_le_pow_right (by decide) (by omega)
   have p1:(2:Int)^s=(P:Int):=by rw [← hP,Int.natCast_pow];rfl
   have p2:=xm (show P<4294967296 by omega)
   have p3:=xu (show P<4294967296 by omega)
   rcases (show a/2^j%2=0∨a/2^j%2=1 by omega) with hbit | hbit
   · obtain ⟨R2,hR2⟩:∃ R2,R1=R2:=⟨_,rfl⟩
     subst hR2
     by_cases hge:b≤R1
     · obtain ⟨d,hd⟩:∃ d,R1-b=d:=⟨_,rfl⟩
       obtain ⟨h1,h2,h3⟩:=HO.out.more HB0.out 0 R k s P x hbit PX.out (by omega) hk hs hP hxe hkl
       obtain ⟨y,hy⟩:∃ y,x+P=y:=⟨_,rfl⟩
       rw [hy] at h1 h2
       have HST:=Lib.hid h2
       have HRR:Hid (a/2^j%b=d):=by rw [Hid,h3];omega
       have q1:(x:Int)+(P:Int)=(y:Int):=by omega
       have q2:=xm h1
       have q3:=xu h1
       have HH:=Lib.hid (And.intro hj2 (And.intro hbit (And.intro hge (And.intro hd (And.intro H6 (And.intro hxe (And.intro hRb (And.intro Ua (And.intro Hz (And.intro hlb hwr))))))))))
       clear hk hs hP h1 h2 h3 hy HO PX hj2 hbit hge hd H6 hxe hRb Ua hkl hPb Hz hlb hwr
       go_wp2_with (fail)
       refine (LV _ _ R 1 hR (by decide) (by have:=HH.out;have:=Pt.out R (by omega);omega) R1 HR1.out).mono ?_
       rintro e w3 ⟨v3,rfl,hv3,hf3,hB3⟩
       replace hf3:wh (B+1) v3:=hf3.mono HH.out.2.2.2.2.2.2.2.2.2.2
       replace qU:=U.below (U.dX qU) hB3
       replace rX:=U.below (U.dX rX) hB3
       replace hown:=hown.ext hB3
       replace hE:=hE.below hB3
       clear hB3 hR hf
       go_wp2_with (fail)
       refine (T9.out _ j HH.out.1 0 HH.out.2.1 qU).mono ?_
       rintro e w4 ⟨rfl,hB4⟩
       replace qU:=U.below (U.dX qU) hB4
       replace rX:=U.below (U.dX rX) hB4
       replace hv3:=U.below (U.dX hv3) hB4
       replace hown:=hown.ext hB4
       replace hE:=hE.below hB4
       clear hB4
       have hv5:=hv3
       have XU:=hf3
       clear hv3 hf3
       have PY:=hown.block.2
       go_wp2_with (fail)
       refine (LW _ _ _ R1 b hv5 rX (by have:=HH.out;have:=HR1.out;have:=Pt.out R1 (by omega);omega) (by have:=HLB.out;omega) true (by rw [decide_eq_true_iff];exact HH.out.2.2.1) d HH.out.2.2.2.1).mono ?_
       rintro e w6 ⟨v6,rfl,hv6,H7,DJ⟩
       replace H7:wh (B+1) v6:=H7.mono PY
       replace hown:=hown.ext DJ
       replace hE:=hE.below DJ
       replace hv5:=U.below (U.dX hv5) DJ
       clear DJ qU rX
       have hcz:=hown.rd.2 k HH.out.2.2.2.2.1
       rw [HH.out.2.2.2.2.2.1] at hcz
       have hfz:=hown.frozen' k
       have TY:But B w6 (w6.setCell ⟨B,k,none⟩ (.int .u32 (y:Nat))):=(But.refl B w6).setCell k _
       have hown2:=hown.set' k y
       have hv7:=U.apart (U.dX hv6) H7 (Nat.lt_succ_self B) TY
       have hE2:=hE.setCell (p:=⟨B,k,none⟩) (by rw [yM.out];exact Nat.le_refl _) (.int .u32 (y:Nat))
       clear hv5 XU hv6 hown hE TY PY
       go_wp2
       go_region
       all_goals
        go_wp2
        go_roundw
        case rel=>exact ⟨j,_,d,_,by omega,rfl,rfl,hv7,H7,HRR,HST,hown2.drew,hE2.drew⟩
        case measure=>simp [intOf]
     · obtain ⟨d,hd⟩:∃ d,R1-b=d:=⟨_,rfl⟩
       obtain ⟨h2,h3⟩:=HO.out.none 0 R hbit PX.out (by omega)
       have HST:=Lib.hid h2
       have HRR:Hid (a/2^j%b=R1):=by rw [Hid,h3];omega
       have HH:=Lib.hid (And.intro hj2 (And.intro hbit (And.intro hge (And.intro hd (And.intro H6 (And.intro hxe (And.intro hRb (And.intro Ua (And.intro Hz (And.intro hlb hwr))))))))))
       clear hk hs hP h2 h3 HO PX hj2 hbit hge hd H6 hxe hRb Ua hkl hPb Hz hlb hwr
       go_wp2_with (fail)
       refine (LV _ _ R 1 hR (by decide) (by have:=HH.out;have:=Pt.out R (by omega);omega) R1 HR1.out).mono ?_
       rintro e w3 ⟨v3,rfl,hv3,hf3,hB3⟩
       replace hf3:wh (B+1) v3:=hf3.mono HH.out.2.2.2.2.2.2.2.2.2.2
       replace qU:=U.below (U.dX qU) hB3
       replace rX:=U.below (U.dX rX) hB3
       replace hown:=hown.ext hB3
       replace hE:=hE.below hB3
       clear hB3 hR hf
       go_wp2_with (fail)
       refine (T9.out _ j HH.out.1 0 HH.out.2.1 qU).mono ?_
       rintro e w4 ⟨rfl,hB4⟩
       replace qU:=U.below (U.dX qU) hB4
       replace rX:=U.below (U.dX rX) hB4
       replace hv3:=U.below (U.dX hv3) hB4
       replace hown:=hown.ext hB4
       replace hE:=hE.below hB4
       clear hB4
       have hv5:=hv3
       have XU:=hf3
       clear hv3 hf3
       have PY:=hown.block.2
       go_wp2_with (fail)
       refine (LW _ _ _ R1 b hv5 rX (by have:=HH.out;have:=HR1.out;have:=Pt.out R1 (by omega);omega) (by have:=HLB.out;omega) false (by rw [decide_eq_false_iff_not];exact HH.out.2.2.1) d HH.out.2.2.2.1).mono ?_
       rintro e w6 ⟨v6,rfl,hv6,H7,DJ⟩
       replace H7:wh (B+1) v6:=H7.mono PY
       replace hown:=hown.ext DJ
       replace hE:=hE.below DJ
       replace hv5:=U.below (U.dX hv5) DJ
       clear DJ qU rX
       clear hv6 H7 PY
       go_wp2
       go_roundw
       case rel=>exact ⟨j,_,R1,_,by omega,rfl,rfl,hv5,XU,HRR,HST,hown,hE⟩
       case measure=>simp [intOf]
   · obtain ⟨R2,hR2⟩:∃ R2,R1+1=R2:=⟨_,rfl⟩
     have HR2:=Lib.hid hR2
     by_cases hge:b≤R2
     · obtain ⟨d,hd⟩:∃ d,R2-b=d:=⟨_,rfl⟩
       obtain ⟨h1,h2,h3⟩:=HO.out.more HB0.out 1 R k s P x hbit PX.out (by omega) hk hs hP hxe hkl
       obtain ⟨y,hy⟩:∃ y,x+P=y:=⟨_,rfl⟩
       rw [hy] at h1 h2
       have HST:=Lib.hid h2
       have HRR:Hid (a/2^j%b=d):=by rw [Hid,h3];omega
       have q1:(x:Int)+(P:Int)=(y:Int):=by omega
       have q2:=xm h1
       have q3:=xu h1
       have HH:=Lib.hid (And.intro hj2 (And.intro hbit (And.intro hge (And.intro hd (And.intro H6 (And.intro hxe (And.intro hRb (And.intro Ua (And.intro Hz (And.intro hlb hwr))))))))))
       clear hk hs hP h1 h2 h3 hy HO PX hj2 hbit hge hd H6 hxe hRb Ua hkl hPb Hz hlb hwr hR2
       go_wp2_with (fail)
       refine (LV _ _ R 1 hR (by decide) (by have:=HH.out;have:=Pt.out R (by omega);omega) R1 HR1.out).mono ?_
       rintro e w3 ⟨v3,rfl,hv3,hf3,hB3⟩
       replace hf3:wh (B+1) v3:=hf3.mono HH.out.2.2.2.2.2.2.2.2.2.2
       replace qU:=U.below (U.dX qU) hB3
       replace rX:=U.below (U.dX rX) hB3
       replace hown:=hown.ext hB3
       replace hE:=hE.below hB3
       clear hB3 hR hf
       go_wp2_with (fail)
       refine (T9.out _ j HH.out.1 1 HH.out.2.1 qU).mono ?_
       rintro e w4 ⟨rfl,hB4⟩
       replace qU:=U.below (U.dX qU) hB4
       replace rX:=U.below (U.dX rX) hB4
       replace hv3:=U.below (U.dX hv3) hB4
       replace hown:=hown.ext hB4
       replace hE:=hE.below hB4
       clear hB4
       have hl:=Lib.hid (uH w4)
       have hw4:=hown.block.2
       go_wp2_with (fail)
       refine (Ws _ _ _ R1 1 (U.alloc (U.dX hv3) _) hl.out (by have:=HH.out;have:=HR1.out;have:=Pt.out R1 (by omega);omega) (by have:=Hw;rw [lG 1 (by decide) (by decide)];simp) R2 HR2.out).mono ?_
       rintro e w5 ⟨v5,rfl,hv5,hf5,Eh⟩
       have XU:wh (B+1) v5:=hf5.mono (by simp;omega)
       replace qU:=U.below (U.alloc (U.dX qU) _) Eh
       replace rX:=U.below (U.alloc (U.dX rX) _) Eh
       replace hown:=(hown.alloc _).ext Eh
       replace hE:=(hE.alloc _).below Eh
       clear Eh hf5 hv3 hf3 hl hw4
       have PY:=hown.block.2
       go_wp2_with (fail)
       refine (LW _ _ _ R2 b hv5 rX (by have:=HH.out;have:=HR1.out;have:=HR2.out;have:=Pt.out R2 (by omega);omega) (by have:=HLB.out;omega) true (by rw [decide_eq_true_iff];exact HH.out.2.2.1) d HH.out.2.2.2.1).mono ?_
       rintro e w6 ⟨v6,rfl,hv6,H7,DJ⟩
       replace H7:wh (B+1) v6:=H7.mono PY
       replace hown:=hown.ext DJ
       replace hE:=hE.below DJ
       replace hv5:=U.below (U.dX hv5) DJ
       clear DJ qU rX
       have hcz:=hown.rd.2 k HH.out.2.2.2.2.1
       rw [HH.out.2.2.2.2.2.1] at hcz
       have hfz:=hown.frozen' k
       have TY:But B w6 (w6.setCell ⟨B,k,none⟩ (.int .u32 (y:Nat))):=(But.refl B w6).setCell k _
       have hown2:=hown.set' k y
       have hv7:=U.apart (U.dX hv6) H7 (Nat.lt_succ_self B) TY
       have hE2:=hE.setCell (p:=⟨B,k,none⟩) (by rw [yM.out];exact Nat.le_refl _) (.int .u32 (y:Nat))
       clear hv5 XU hv6 hown hE TY PY
       go_wp2
       go_region
       all_goals
        go_wp2
        go_roundw
        case rel=>exact ⟨j,_,d,_,by omega,rfl,rfl,hv7,H7,HRR,HST,hown2.drew,hE2.drew⟩
        case measure=>simp [intOf]
     · obtain ⟨d,hd⟩:∃ d,R2-b=d:=⟨_,rfl⟩
       obtain ⟨h2,h3⟩:=HO.out.none 1 R hbit PX.out (by omega)
       have HST:=Lib.hid h2
       have HRR:Hid (a/2^j%b=R2):=by rw [Hid,h3];omega
       have HH:=Lib.hid (And.intro hj2 (And.intro hbit (And.intro hge (And.intro hd (And.intro H6 (And.intro hxe (And.intro hRb (And.intro Ua (And.intro Hz (And.intro hlb hwr))))))))))
       clear hk hs hP h2 h3 HO PX hj2 hbit hge hd H6 hxe hRb Ua hkl hPb Hz hlb hwr hR2
       go_wp2_with (fail)
       refine (LV _ _ R 1 hR (by decide) (by have:=HH.out;have:=Pt.out R (by omega);omega) R1 HR1.out).mono ?_
       rintro e w3 ⟨v3,rfl,hv3,hf3,hB3⟩
       replace hf3:wh (B+1) v3:=hf3.mono HH.out.2.2.2.2.2.2.2.2.2.2
       replace qU:=U.below (U.dX qU) hB3
       replace rX:=U.below (U.dX rX) hB3
       replace hown:=hown.ext hB3
       replace hE:=hE.below hB3
       clear hB3 hR hf
       go_wp2_with (fail)
       refine (T9.out _ j HH.out.1 1 HH.out.2.1 qU).mono ?_
       rintro e w4 ⟨rfl,hB4⟩
       replace qU:=U.below (U.dX qU) hB4
       replace rX:=U.below (U.dX rX) hB4
       replace hv3:=U.below (U.dX hv3) hB4
       replace hown:=hown.ext hB4
       replace hE:=hE.below hB4
       clear hB4
       have hl:=Lib.hid (uH w4)
       have hw4:=hown.block.2
       go_wp2_with (fail)
       refine (Ws _ _ _ R1 1 (U.alloc (U.dX hv3) _) hl.out (by have:=HH.out;have:=HR1.out;have:=Pt.out R1 (by omega);omega) (by have:=Hw;rw [lG 1 (by decide) (by decide)];simp) R2 HR2.out).mono ?_
       rintro e w5 ⟨v5,rfl,hv5,hf5,Eh⟩
       have XU:wh (B+1) v5:=hf5.mono (by simp;omega)
       replace qU:=U.below (U.alloc (U.dX qU) _) Eh
       replace rX:=U.below (U.alloc (U.dX rX) _) Eh
       replace hown:=(hown.alloc _).ext Eh
       replace hE:=(hE.alloc _).below Eh
       clear Eh hf5 hv3 hf3 hl hw4
       have PY:=hown.block.2
       go_wp2_with (fail)
       refine (LW _ _ _ R2 b hv5 rX (by have:=HH.out;have:=HR1.out;have:=HR2.out;have:=Pt.out R2 (by omega);omega) (by have:=HLB.out;omega) false (by rw [decide_eq_false_iff_not];exact HH.out.2.2.1) d HH.out.2.2.2.1).mono ?_
       rintro e w6 ⟨v6,rfl,hv6,H7,DJ⟩
       replace H7:wh (B+1) v6:=H7.mono PY
       replace hown:=hown.ext DJ
       replace hE:=hE.below DJ
       replace hv5:=U.below (U.dX hv5) DJ
       clear DJ qU rX
       clear hv6 H7 PY
       go_wp2
       go_roundw
       case rel=>exact ⟨j,_,R2,_,by omega,rfl,rfl,hv5,XU,HRR,HST,hown,hE⟩
       case measure=>simp [intOf]
end Go.Proofs.YtgcieamfidoaoaaGreatDoor
/- Naturals in slices, in the walk by plans. -/
namespace Go.Proofs.YtgcieamfidoaoaaGreatDoor
open Go.RowKit
set_option maxRecDepth 100000
def Sn (n K:Nat):Prop:=(limbs n).length≤K
theorem Sn.le {n K M:Nat} (h:Sn n K) (hk:K≤M):Sn n M:=Nat.le_trans h hk
theorem Sn.zero {K:Nat}:Sn 0 K:=by show (limbs 0).length≤K;rw [aX];exact Nat.zero_le _
theorem Sn.lt {n K:Nat} (h:Sn n K):n<4294967296^K:=dU h
theorem Sn.of {n K:Nat} (h:n<4294967296^K):Sn n K:=kN h
theorem Sn.down {n m K:Nat} (h:Sn n K) (hm:m≤n):Sn m K:=Sn.of (Nat.lt_of_le_of_lt hm h.lt)
theorem Sn.add {a b K J M:Nat} (ha:Sn a K) (hb:Sn b J) (hk:K+1≤M) (hj:J+1≤M):Sn (a+b) M:=by
 obtain ⟨m,rfl⟩:∃ m,M=m+1:=⟨M-1,by omega⟩
 have h1:=(ha.le (show K≤m by omega)).lt
 have h2:=(hb.le (show J≤m by omega)).lt
 refine Sn.of ?_
 rw [Nat.pow_succ]
 omega
theorem Sn.mul {a b K J M:Nat} (ha:Sn a K) (hb:Sn b J) (hk:K+J≤M):Sn (a*b) M:=by
 refine Sn.of (Nat.lt_of_lt_of_le (Nat.mul_lt_mul'' ha.lt hb.lt) ?_)
 rw [← Nat.pow_add]
 exact Nat.pow_le_pow_right (by decide) hk
theorem Sn.div {a b K:Nat} (h:Sn a K):Sn (a/b) K:=h.down (Nat.div_le_self _ _)
theorem Sn.mod {a b K:Nat} (h:Sn b K) (h0:b≠0):Sn (a%b) K:=h.down (Nat.le_of_lt (Nat.mod_lt _ (Nat.pos_of_ne_zero h0)))
theorem Sn.sz {n K:Nat} (h:Sn n K):Sz (n:Int) K:=h
theorem Sz.sn {z:Int} {K:Nat} (h:Sz z K):Sn z.natAbs K:=h
theorem Mm {n:Nat} (h:0<n):(0:Int)<((limbs n).length:Int):=by
 rw [fZ (by omega)];simp
theorem Cv {n:Nat} (h:n=0):¬ (0:Int)<((limbs n).length:Int):=by
 subst h;rw [aX];simp
end Go.Proofs.YtgcieamfidoaoaaGreatDoor
/- Small laws for the walk's printer (ax.py): numbers of unsigned kinds, comparisons, contracts of naturals in the printer's form. -/
namespace Go.Proofs.YtgcieamfidoaoaaGreatDoor
open Go.RowKit
set_option maxRecDepth 100000
theorem Un.one {w:World} {N:Nat} {T:TypeId} {x:Nat} {z:Int} (h:Pl.Cb w N T [.int .u32 z]) (hz:z=(x:Int)) (h0:x≠0∧x<4294967296):Un w (.slice (some ⟨N,0,none⟩) 1 1) x:=by
 subst hz
 rw [Un,lG x h0.1 h0.2]
 refine ⟨_,1,rfl,⟨by simp,by simp⟩,by simpa using h0.2,fun _=>⟨_,rfl,h.lt,fun j hj=>?_⟩⟩
 have:j=0:=by simpa using hj
 subst this
 rw [kQ]
 exact h.at (j:=0) rfl
theorem Un.aeW (w:World) (A:Option Addr) (c:Nat):Un w (.slice A 0 c) 0:=by rw [Un,aX];exact U.yX _ _ _
theorem Un.len {w:World} {A:Option Addr} {L c n:Nat} (h:Un w (.slice A L c) n):L=(limbs n).length:=by
 obtain ⟨A',c',e,_⟩:=h;injection e
theorem Un.jX {w:World} {v:Value} {n:Nat} (h:Un w v n):∃ A c,v = .slice A (limbs n).length c:=by
 obtain ⟨A',c',e,_⟩:=h;exact ⟨A',c',e⟩
theorem CB (n m:Nat):(n<m∧bN n m = -1)∨(n=m∧bN n m=0)∨(m<n∧bN n m=1):=by
 unfold bN
 rcases Nat.lt_trichotomy n m with h | h | h
 · exact .inl ⟨h,if_pos (by omega)⟩
 · exact .inr (.inl ⟨h,by rw [if_neg (by omega),if_neg (by omega)]⟩)
 · exact .inr (.inr ⟨h,by rw [if_neg (by omega),if_pos (by omega)]⟩)
section
variable {P:Program} {T:TypeId} {x y:Operand} {n m:Nat}
theorem Cm.Rn (h:n=m) (X:World):Pl.Bn P .eql T x y (.int .i64 (bN n m)) (.int .i64 0) X = .ok (.bool true) X:=Pl.xA (Pl.e_t (by have:=CB n m;omega)) X
theorem Cm.Ro (h:¬ n=m) (X:World):Pl.Bn P .eql T x y (.int .i64 (bN n m)) (.int .i64 0) X = .ok (.bool false) X:=Pl.xA (Pl.e_f (by have:=CB n m;omega)) X
end
end Go.Proofs.YtgcieamfidoaoaaGreatDoor
