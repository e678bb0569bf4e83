/- Words added to a row, and taken away from it. -/
import Derived.Test.YtdpmbgomcjnohaaGreatDoorBaj
import Derived.Test.YtdpmbgomcjnohaaGreatDoorBag
import Derived.Laws.Externs
import Derived.Shelf.Spec.BitsCarry
import Derived.Laws.CopyOwn

namespace Go.Proofs.YtdpmbgomcjnohaaGreatDoor
open Go.RowKit
set_option linter.unusedVariables false
set_option maxHeartbeats 400000
theorem rM (x y c s d:Nat) (hc:c≤1) (hs:(x+y+c)%18446744073709551616=s) (hd:(x+y+c)/18446744073709551616=d) (w:World) :
  (callFunc 170 #[.int .u64 (x:Nat),.int .u64 (y:Nat),.int .u64 (c:Nat)]).run Tryz.prog w = .ok (.value (.tuple #[.int .u64 (s:Nat),.int .u64 (d:Nat)])) w:=by
 rw [run_callFunc_extern Tryz.func170 (by kernel_rfl) (by kernel_rfl) (by kernel_rfl) (e:=add64Entry) (by kernel_rfl),run_add64 x y c (by omega) (by omega) (by omega) (by omega),← hs,← hd]
 simp only [Result.andThen]
 congr 5<;>omega
theorem wG (x y b s d:Nat) (hb:b≤1) (hs:(x+18446744073709551616-y-b)%18446744073709551616=s) (hd:(if x<y+b then 1 else 0)=d) (w:World) :
  (callFunc 205 #[.int .u64 (x:Nat),.int .u64 (y:Nat),.int .u64 (b:Nat)]).run Tryz.prog w = .ok (.value (.tuple #[.int .u64 (s:Nat),.int .u64 (d:Nat)])) w:=by
 rw [run_callFunc_extern Tryz.func205 (by kernel_rfl) (by kernel_rfl) (by kernel_rfl) (e:=sub64Entry) (by kernel_rfl),run_sub64 x y b hb,hs,hd]
 rfl
structure JA (n off:Nat) (A:Nat) (i:Nat) (o:List Nat) (cy:Nat):Prop where
 len:o.length=n
 lt:∀ x∈o,x<18446744073709551616
 zT:cy≤1
 val:aU o+BB^(off+i)*cy=A
theorem JA.step {n off A i:Nat} {o:List Nat} {cy:Nat} (h:JA n off A i o cy) (hi:off+i<n) (y s d:Nat) (hy:y<18446744073709551616)
  (hs:(lb o (off+i)+y+cy)%18446744073709551616=s) (hd:(lb o (off+i)+y+cy)/18446744073709551616=d):JA n off (A+BB^(off+i)*y) (i+1) (o.set (off+i) s) d:=by
 have hx:lb o (off+i)<18446744073709551616:=dh (by decide) h.lt _
 have h1:=h.zT
 refine ⟨by simp [h.len],dY h.lt (by omega),by omega,?_⟩
 rw [← Nat.add_assoc,Nat.pow_succ]
 exact Ez _ _ _ _ _ _ _ _ _ (mZ o (off+i) s (by rw [h.len];exact hi)) h.val (by unfold BB;omega)
structure Sa (n off:Nat) (A T:Nat) (i:Nat) (o:List Nat) (cy:Nat):Prop where
 len:o.length=n
 lt:∀ x∈o,x<18446744073709551616
 zT:cy≤1
 val:aU o+T=A+BB^(off+i)*cy
theorem Sa.step {n off A T i:Nat} {o:List Nat} {cy:Nat} (h:Sa n off A T i o cy) (hi:off+i<n) (y s d:Nat) (hy:y<18446744073709551616)
  (hs:(lb o (off+i)+18446744073709551616-y-cy)%18446744073709551616=s) (hd:(if lb o (off+i)<y+cy then 1 else 0)=d):Sa n off A (T+BB^(off+i)*y) (i+1) (o.set (off+i) s) d:=by
 have hx:lb o (off+i)<18446744073709551616:=dh (by decide) h.lt _
 have h1:=h.zT
 have hd1:d≤1:=by rw [← hd];split<;>omega
 refine ⟨by simp [h.len],dY h.lt (by omega),hd1,?_⟩
 rw [show off+(i+1)=off+i+1 from rfl,Nat.pow_succ]
 refine DW _ _ _ _ _ _ _ _ _ _ (mZ o (off+i) s (by rw [h.len];exact hi)) h.val ?_
 unfold BB
 split at hd<;>omega
set_option maxRecDepth 100000 in
set_option maxHeartbeats 4000000 in
theorem pg (w:World) (g base n c off zl zc:Nat) (o cZ:List Nat) (va:Value) (hown:Ow w base (.slice (some ⟨g,0,none⟩) n c) o) (ho:∀ x∈o,x<18446744073709551616)
  (hz:off+zl≤n) (hzc:zl≤zc) (hn:n≤1000000) (ha:V g w va cZ) (hal:cZ.length≤zl) :
  Calls Tryz.prog 160 #[.slice (some ⟨g,off,none⟩) zl zc,va] w fun e w'=>(∃ o' cy,e = .returned (.int .u64 (cy:Nat))∧JA n off (aU o+BB^off*aU cZ) zl o' cy∧Ow w' base (.slice (some ⟨g,0,none⟩) n c) o')∧But g w w':=by
 have hlim:=ha.lim
 obtain ⟨A,ca,rfl,⟨hca,hma⟩,hx,hr⟩:=id ha
 obtain ⟨na,hna⟩:∃ na,cZ.length=na:=⟨_,rfl⟩
 have hcap:=hown.caps
 have hgb:=hown.block.2
 have HN:=Lib.hid hna
 have HS:Hid (JA n off (aU o+BB^off*aU (cZ.take 0)) 0 o 0):=⟨hcap.1.symm,ho,Nat.zero_le _,by simp [aU]⟩
 have SQ:=Lib.hid (fun k=>gm cZ k)
 have HT2:Hid (cZ.take na=cZ):=by rw [Hid,← hna];exact List.take_length
 rw [hna] at hca hma hr hal ⊢
 have hB0:=But.refl g w
 clear ha hna hcap ho
 go_enter Tryz.func160,Tryz.ntmps160
 go_wp2
 go_loopw [16,5] (fun t s wr=>∃ (i:Nat) (o':List Nat) (cy:Nat),i≤na∧t = .int .i64 (i:Nat)∧s = .int .u64 (cy:Nat)∧Hid (JA n off (aU o+BB^off*aU (cZ.take i)) i o' cy)∧Ow wr base (.slice (some ⟨g,0,none⟩) n c) o'∧But g w wr) (fun t _ _=>na-(intOf t).toNat)
 case atStart=>exact ⟨0,o,0,Nat.zero_le _,rfl,rfl,HS,hown,hB0⟩
 case round =>
  clear HS hown hB0
  obtain ⟨i,o',cy,hi,rfl,rfl,HO,hown,hB⟩:=hrel
  by_cases hlt:i<na
  · obtain ⟨ad,rfl,hb,hne,hcell⟩:=hr (by omega)
    have hc0:=(hB.cell (p:=ad.add i) (by rw [aF];exact hb) (by rw [aF];exact hne)).trans (hcell i hlt)
    have hy:lb cZ i<18446744073709551616:=dh (by decide) hx i
    have htk:=SQ.out i (by rw [HN.out];exact hlt)
    have hcz:=hown.cell (j:=off+i) (by omega)
    have hf:=hown.frozen (off+i)
    have hx1:lb o' (off+i)<18446744073709551616:=dh (by decide) HO.out.lt _
    have hcy:=HO.out.zT
    obtain ⟨y,yZ⟩:∃ y,lb cZ i=y:=⟨_,rfl⟩
    rw [yZ] at hc0 hy htk
    obtain ⟨s,hs⟩:∃ s,(lb o' (off+i)+y+cy)%18446744073709551616=s:=⟨_,rfl⟩
    obtain ⟨d,hd⟩:∃ d,(lb o' (off+i)+y+cy)/18446744073709551616=d:=⟨_,rfl⟩
    have hst:=HO.out.step (by omega) y s d hy hs hd
    rw [Nat.add_assoc (aU o),Nat.pow_add,Nat.mul_assoc,← Nat.mul_add,← htk] at hst
    have HST:=Lib.hid hst
    have hown2:=hown.nO (off+i) s
    have hB2:=hB.setCell (off+i) (.int .u64 (s:Nat))
    obtain ⟨x,wF⟩:∃ x,lb o' (off+i)=x:=⟨_,rfl⟩
    rw [wF] at hs hd hcz hx1
    have hadd:=rM x y cy s d hcy hs hd
    clear hst htk yZ hs hd wF hown hB HO hy hx1 hcy
    go_wp2
    go_roundw
    case rel=>exact ⟨i+1,_,d,by omega,by go_num,rfl,HST,hown2,hB2⟩
    case measure=>simp [intOf];omega
  · obtain rfl:i=na:=by omega
    rw [HT2.out] at HO
    clear hr hlt
    go_wp2
    go_loopw [9,5] (fun t s wx=>∃ (j:Nat) (o2:List Nat) (Dm:Nat),j≤zl∧t = .int .i64 (j:Nat)∧s = .int .u64 (Dm:Nat)∧Hid (JA n off (aU o+BB^off*aU cZ) j o2 Dm)∧Ow wx base (.slice (some ⟨g,0,none⟩) n c) o2∧But g w wx) (fun t _ _=>zl-(intOf t).toNat)
    case atStart=>exact ⟨i,o',cy,hal,rfl,rfl,HO,hown,hB⟩
    case round =>
     clear hown hB HO
     obtain ⟨j,o2,Dm,hj,rfl,rfl,HO,hown,hB⟩:=hrel
     have hcy:=HO.out.zT
     by_cases h0:Dm=0
     · subst h0
       have HF:Hid (∃ o' cy,Ending.returned (.int .u64 0) = .returned (.int .u64 (cy:Nat))∧JA n off (aU o+BB^off*aU cZ) zl o' cy∧Ow wr base (.slice (some ⟨g,0,none⟩) n c) o'):=⟨o2,0,rfl,⟨HO.out.len,HO.out.lt,Nat.zero_le _,by have:=HO.out.val;simpa using this⟩,hown⟩
       clear hown HO
       go_wp2
       go_ret
       exact ⟨HF.out,hB⟩
     · have hne:(((Dm:Nat):Int) != 0)=true:=by rw [bne_iff_ne];omega
       by_cases hjz:j<zl
       · have hcz:=hown.cell (j:=off+j) (by omega)
         have hf:=hown.frozen (off+j)
         have hx1:lb o2 (off+j)<18446744073709551616:=dh (by decide) HO.out.lt _
         obtain ⟨s,hs⟩:∃ s,(lb o2 (off+j)+0+Dm)%18446744073709551616=s:=⟨_,rfl⟩
         obtain ⟨d,hd⟩:∃ d,(lb o2 (off+j)+0+Dm)/18446744073709551616=d:=⟨_,rfl⟩
         have hst:=HO.out.step (by omega) 0 s d (by decide) hs hd
         rw [Nat.mul_zero,Nat.add_zero] at hst
         have HST:=Lib.hid hst
         have hown2:=hown.nO (off+j) s
         have hB2:=hB.setCell (off+j) (.int .u64 (s:Nat))
         obtain ⟨x,wF⟩:∃ x,lb o2 (off+j)=x:=⟨_,rfl⟩
         rw [wF] at hs hd hcz hx1
         have hadd:∀ w,(callFunc 170 #[.int .u64 (x:Nat),.int .u64 0,.int .u64 (Dm:Nat)]).run Tryz.prog w = .ok (.value (.tuple #[.int .u64 (s:Nat),.int .u64 (d:Nat)])) w:=rM x 0 Dm s d hcy hs hd
         clear hst hs hd wF hown hB HO hx1 hcy h0
         go_wp2
         go_roundw
         case rel=>exact ⟨j+1,_,d,by omega,by go_num,rfl,HST,hown2,hB2⟩
         case measure=>simp [intOf];omega
       · obtain rfl:j=zl:=by omega
         have HF:Hid (∃ o' cy,Ending.returned (.int .u64 (Dm:Nat)) = .returned (.int .u64 (cy:Nat))∧JA n off (aU o+BB^off*aU cZ) j o' cy∧Ow wr base (.slice (some ⟨g,0,none⟩) n c) o'):=⟨o2,Dm,rfl,HO.out,hown⟩
         clear hown HO h0
         go_wp2
         go_ret
         exact ⟨HF.out,hB⟩
set_option maxRecDepth 100000 in
set_option maxHeartbeats 4000000 in
theorem tL (w:World) (g base n c off zl zc:Nat) (o cZ:List Nat) (va:Value) (hown:Ow w base (.slice (some ⟨g,0,none⟩) n c) o) (ho:∀ x∈o,x<18446744073709551616)
  (hz:off+zl≤n) (hzc:zl≤zc) (hn:n≤1000000) (ha:V g w va cZ) (hal:cZ.length≤zl) :
  Calls Tryz.prog 183 #[.slice (some ⟨g,off,none⟩) zl zc,va] w fun e w'=>e = .returned (.tuple #[])∧(∃ o' cy,Sa n off (aU o) (BB^off*aU cZ) zl o' cy∧Ow w' base (.slice (some ⟨g,0,none⟩) n c) o')∧But g w w':=by
 have hlim:=ha.lim
 obtain ⟨A,ca,rfl,⟨hca,hma⟩,hx,hr⟩:=id ha
 obtain ⟨na,hna⟩:∃ na,cZ.length=na:=⟨_,rfl⟩
 have hcap:=hown.caps
 have hgb:=hown.block.2
 have HN:=Lib.hid hna
 have HS:Hid (Sa n off (aU o) (BB^off*aU (cZ.take 0)) 0 o 0):=⟨hcap.1.symm,ho,Nat.zero_le _,by simp [aU]⟩
 have SQ:=Lib.hid (fun k=>gm cZ k)
 have HT2:Hid (cZ.take na=cZ):=by rw [Hid,← hna];exact List.take_length
 rw [hna] at hca hma hr hal ⊢
 have hB0:=But.refl g w
 clear ha hna hcap ho
 go_enter Tryz.func183,Tryz.ntmps183
 go_wp2
 go_loopw [15,4] (fun t s wr=>∃ (i:Nat) (o':List Nat) (cy:Nat),i≤na∧t = .int .i64 (i:Nat)∧s = .int .u64 (cy:Nat)∧Hid (Sa n off (aU o) (BB^off*aU (cZ.take i)) i o' cy)∧Ow wr base (.slice (some ⟨g,0,none⟩) n c) o'∧But g w wr) (fun t _ _=>na-(intOf t).toNat)
 case atStart=>exact ⟨0,o,0,Nat.zero_le _,rfl,rfl,HS,hown,hB0⟩
 case round =>
  clear HS hown hB0
  obtain ⟨i,o',cy,hi,rfl,rfl,HO,hown,hB⟩:=hrel
  by_cases hlt:i<na
  · obtain ⟨ad,rfl,hb,hne,hcell⟩:=hr (by omega)
    have hc0:=(hB.cell (p:=ad.add i) (by rw [aF];exact hb) (by rw [aF];exact hne)).trans (hcell i hlt)
    have hy:lb cZ i<18446744073709551616:=dh (by decide) hx i
    have htk:=SQ.out i (by rw [HN.out];exact hlt)
    have hcz:=hown.cell (j:=off+i) (by omega)
    have hf:=hown.frozen (off+i)
    have hx1:lb o' (off+i)<18446744073709551616:=dh (by decide) HO.out.lt _
    have hcy:=HO.out.zT
    obtain ⟨y,yZ⟩:∃ y,lb cZ i=y:=⟨_,rfl⟩
    rw [yZ] at hc0 hy htk
    obtain ⟨s,hs⟩:∃ s,(lb o' (off+i)+18446744073709551616-y-cy)%18446744073709551616=s:=⟨_,rfl⟩
    obtain ⟨d,hd⟩:∃ d,(if lb o' (off+i)<y+cy then 1 else 0)=d:=⟨_,rfl⟩
    have hst:=HO.out.step (by omega) y s d hy hs hd
    rw [Nat.pow_add,Nat.mul_assoc,← Nat.mul_add,← htk] at hst
    have HST:=Lib.hid hst
    have hown2:=hown.nO (off+i) s
    have hB2:=hB.setCell (off+i) (.int .u64 (s:Nat))
    obtain ⟨x,wF⟩:∃ x,lb o' (off+i)=x:=⟨_,rfl⟩
    rw [wF] at hs hd hcz hx1
    have hadd:=wG x y cy s d hcy hs hd
    clear hst htk yZ hs hd wF hown hB HO hy hx1 hcy
    go_wp2
    go_roundw
    case rel=>exact ⟨i+1,_,d,by omega,by go_num,rfl,HST,hown2,hB2⟩
    case measure=>simp [intOf];omega
  · obtain rfl:i=na:=by omega
    rw [HT2.out] at HO
    clear hr hlt
    go_wp2
    go_loopw [8,4] (fun t s wx=>∃ (j:Nat) (o2:List Nat) (Dm:Nat),j≤zl∧t = .int .i64 (j:Nat)∧s = .int .u64 (Dm:Nat)∧Hid (Sa n off (aU o) (BB^off*aU cZ) j o2 Dm)∧Ow wx base (.slice (some ⟨g,0,none⟩) n c) o2∧But g w wx) (fun t _ _=>zl-(intOf t).toNat)
    case atStart=>exact ⟨i,o',cy,hal,rfl,rfl,HO,hown,hB⟩
    case round =>
     clear hown hB HO
     obtain ⟨j,o2,Dm,hj,rfl,rfl,HO,hown,hB⟩:=hrel
     have hcy:=HO.out.zT
     by_cases h0:Dm=0
     · subst h0
       have HF:Hid (∃ o' cy,Sa n off (aU o) (BB^off*aU cZ) zl o' cy∧Ow wr base (.slice (some ⟨g,0,none⟩) n c) o'):=⟨o2,0,⟨HO.out.len,HO.out.lt,Nat.zero_le _,by have:=HO.out.val;simpa using this⟩,hown⟩
       clear hown HO
       go_wp2
       go_end0
       exact ⟨rfl,HF.out,hB⟩
     · have hne:(((Dm:Nat):Int) != 0)=true:=by rw [bne_iff_ne];omega
       by_cases hjz:j<zl
       · have hcz:=hown.cell (j:=off+j) (by omega)
         have hf:=hown.frozen (off+j)
         have hx1:lb o2 (off+j)<18446744073709551616:=dh (by decide) HO.out.lt _
         obtain ⟨s,hs⟩:∃ s,(lb o2 (off+j)+18446744073709551616-0-Dm)%18446744073709551616=s:=⟨_,rfl⟩
         obtain ⟨d,hd⟩:∃ d,(if lb o2 (off+j)<0+Dm then 1 else 0)=d:=⟨_,rfl⟩
         have hst:=HO.out.step (by omega) 0 s d (by decide) hs hd
         rw [Nat.mul_zero,Nat.add_zero] at hst
         have HST:=Lib.hid hst
         have hown2:=hown.nO (off+j) s
         have hB2:=hB.setCell (off+j) (.int .u64 (s:Nat))
         obtain ⟨x,wF⟩:∃ x,lb o2 (off+j)=x:=⟨_,rfl⟩
         rw [wF] at hs hd hcz hx1
         have hadd:∀ w,(callFunc 205 #[.int .u64 (x:Nat),.int .u64 0,.int .u64 (Dm:Nat)]).run Tryz.prog w = .ok (.value (.tuple #[.int .u64 (s:Nat),.int .u64 (d:Nat)])) w:=wG x 0 Dm s d hcy hs hd
         clear hst hs hd wF hown hB HO hx1 hcy h0
         go_wp2
         go_roundw
         case rel=>exact ⟨j+1,_,d,by omega,by go_num,rfl,HST,hown2,hB2⟩
         case measure=>simp [intOf];omega
       · obtain rfl:j=zl:=by omega
         have HF:Hid (∃ o' cy,Sa n off (aU o) (BB^off*aU cZ) j o' cy∧Ow wr base (.slice (some ⟨g,0,none⟩) n c) o'):=⟨o2,Dm,HO.out,hown⟩
         clear hown HO h0
         go_wp2
         go_end0
         exact ⟨rfl,HF.out,hB⟩
end Go.Proofs.YtdpmbgomcjnohaaGreatDoor
/- The mathematics of a quotient word by word: a part of a row, the product that is taken off, the digit that was one too great, the words of limbs. -/
namespace Go.Proofs.YtdpmbgomcjnohaaGreatDoor
open Go.RowKit
set_option linter.unusedVariables false
set_option maxHeartbeats 400000
def Sg (pre s post:List Nat):List Nat:=pre++(s++post)
theorem Gy (pre s post:List Nat) (off i:Nat) (h0:pre.length=off) (h:i<s.length):lb (Sg pre s post) (off+i)=lb s i:=by
 unfold Sg
 rw [pV,if_neg (by omega),pV,if_pos (by omega),h0,Nat.add_sub_cancel_left]
theorem AL (pre s post:List Nat) (off i x:Nat) (h0:pre.length=off) (h:i<s.length):(Sg pre s post).set (off+i) x=Sg pre (s.set i x) post:=by
 unfold Sg
 rw [List.set_append,if_neg (by omega),h0,Nat.add_sub_cancel_left,List.set_append,if_pos h]
theorem Jz (pre s post:List Nat):(Sg pre s post).length=pre.length+s.length+post.length:=by
 unfold Sg;rw [List.length_append,List.length_append];omega
theorem OL (pre s post:List Nat):aU (Sg pre s post)=aU pre+BB^pre.length*(aU s+BB^s.length*aU post):=by
 unfold Sg;rw [jd,jd]
theorem OM (o:List Nat) (j k:Nat):o=Sg (o.take j) ((o.drop j).take k) ((o.drop j).drop k):=by
 unfold Sg;rw [List.take_append_drop,List.take_append_drop]
structure Vv (n A T i:Nat) (s0 s:List Nat) (bo:Nat):Prop where
 len:s.length=n
 lt:∀ x∈s,x<18446744073709551616
 b1:bo<18446744073709551616
 val:aU s+T=A+BB^i*bo
 out:∀ m,i≤m→lb s m=lb s0 m
theorem Vv.step {n A T i:Nat} {s0 s:List Nat} {bo:Nat} (h:Vv n A T i s0 s bo) (hi:i<n) (t x b2:Nat) (hd:lb s i+BB*b2=x+t+bo) (hx:x<18446744073709551616) (hb:b2<18446744073709551616) :
  Vv n A (T+BB^i*t) (i+1) s0 (s.set i x) b2:=by
 refine ⟨by simp [h.len],dY h.lt hx,hb,?_,fun m hm=>?_⟩
 · rw [Nat.pow_succ]
   exact DW _ _ _ _ _ _ _ _ _ _ (mZ s i x (by rw [h.len];exact hi)) h.val hd
 · rw [bX _ (by omega)];exact h.out m (by omega)
theorem qA (s:List Nat) (n:Nat) (hl:s.length=n+1) (hx:∀ x∈s,x<18446744073709551616):aU s<BB^n*(lb s n+1):=by
 have h1:=gm s n (by omega)
 rw [List.take_of_length_le (by omega)] at h1
 have h2:=uV (s.take n) (fun x h=>hx x (List.mem_of_mem_take h))
 rw [List.length_take,Nat.min_eq_left (by omega)] at h2
 rw [Nat.mul_add,Nat.mul_one]
 omega
theorem Ws (n T:Nat) (s0 s:List Nat) (bo t x:Nat) (h:Vv (n+1) (aU s0) T n s0 s bo) (ht:lb s0 n=t) (hx:x+bo=t):aU (s.set n x)+T=aU s0∧∀ y∈s.set n x,y<18446744073709551616:=by
 have hs:=mZ s n x (by rw [h.len];omega)
 have hb:t<18446744073709551616:=by rw [← ht,← h.out n (Nat.le_refl _)];exact dh (by decide) h.lt n
 rw [h.out n (Nat.le_refl _),ht] at hs
 have hv:=h.val
 have h1:BB^n*x+BB^n*bo=BB^n*t:=by rw [← Nat.mul_add,hx]
 exact ⟨by omega,dY h.lt (by omega)⟩
theorem OO (n T:Nat) (s0 s:List Nat) (bo t x:Nat) (h:Vv (n+1) (aU s0) T n s0 s bo) (ht:lb s0 n=t) (hx:x+bo=t+BB) (hb:t<bo):aU (s.set n x)+T=aU s0+BB^n*BB∧∀ y∈s.set n x,y<18446744073709551616:=by
 have hs:=mZ s n x (by rw [h.len];omega)
 rw [h.out n (Nat.le_refl _),ht] at hs
 have hv:=h.val
 have h1:BB^n*x+BB^n*bo=BB^n*t+BB^n*BB:=by rw [← Nat.mul_add,hx,Nat.mul_add]
 exact ⟨by omega,dY h.lt (by unfold BB at hx;omega)⟩
theorem OP (n T V q1 A S1:Nat) (s2:List Nat) (c:Nat) (hS1:S1+T=A+BB^n*BB) (hT:T=q1*V+V) (hA:q1*V≤A) (h:JA (n+1) 0 (S1+V) n s2 c) :
  (lb s2 n+c)=BB∧aU (s2.set n 0)+q1*V=A:=by
 have hv:=h.val
 rw [Nat.zero_add] at hv
 have hc:=h.zT
 have hl:=qA s2 n h.len h.lt
 have hw:lb s2 n<BB:=dh (by decide) h.lt n
 have h1:BB^n*BB<BB^n*(lb s2 n+1+c):=by
  rw [Nat.mul_add _ _ c]
  omega
 have h2:BB<lb s2 n+1+c:=Nat.lt_of_mul_lt_mul_left h1
 have h3:lb s2 n+c=BB:=by omega
 refine ⟨h3,?_⟩
 have hs:=mZ s2 n 0 (by rw [h.len];omega)
 have h4:BB^n*lb s2 n+BB^n*c=BB^n*BB:=by rw [← Nat.mul_add,h3]
 rw [Nat.mul_zero] at hs
 omega
theorem zU (s:List Nat) (k:Nat) (hl:s.length=k+1):aU s=lb s k*BB^k+aU (s.take k):=by
 have h1:=gm s k (by omega)
 rw [List.take_of_length_le (by omega)] at h1
 rw [h1,Nat.mul_comm (lb s k),Nat.add_comm]
theorem wC (s:List Nat) (k:Nat) (hl:s.length=k+2):aU s=(lb s (k+1)*BB+lb s k)*BB^k+aU (s.take k):=by
 have h0:=zU s (k+1) (by omega)
 have h1:=gm s k (by omega)
 rw [h0,h1,Nat.pow_succ,Nat.add_mul,Nat.mul_comm (BB^k) (lb s k),Nat.mul_assoc,Nat.mul_comm BB (BB^k)]
 omega
theorem DX (s:List Nat) (k:Nat) (hl:s.length=k+3):aU s=((lb s (k+2)*BB+lb s (k+1))*BB+lb s k)*BB^k+aU (s.take k):=by
 have h0:aU s=(lb s (k+2)*BB+lb s (k+1))*BB^(k+1)+aU (s.take (k+1)):=wC s (k+1) (by omega)
 have h1:=gm s k (by omega)
 rw [h0,h1,Nat.pow_succ,Nat.add_mul _ (lb s k),Nat.mul_comm (BB^k) (lb s k),Nat.mul_assoc _ BB (BB^k),Nat.mul_comm BB (BB^k)]
 omega
theorem rH (s:List Nat) (k:Nat) (hk:k≤s.length) (hx:∀ x∈s,x<18446744073709551616):aU (s.take k)<BB^k:=by
 have h2:=uV (s.take k) (fun x h=>hx x (List.mem_of_mem_take h))
 rwa [List.length_take,Nat.min_eq_left hk] at h2
theorem Wu (s vs:List Nat) (k:Nat) (hs:s.length=k+2) (hv:vs.length=k+1) (hx:∀ x∈vs,x<18446744073709551616) (h:aU s<BB*aU vs):lb s (k+1)≤lb vs k:=by
 have h1:=zU s (k+1) hs
 have h2:=qA vs k hv hx
 have h3:lb s (k+1)*BB^(k+1)<(lb vs k+1)*BB^(k+1):=by
  have:BB*aU vs≤BB*(BB^k*(lb vs k+1)):=Nat.mul_le_mul_left _ (Nat.le_of_lt h2)
  have e:(lb vs k+1)*BB^(k+1)=BB*(BB^k*(lb vs k+1)):=by
   rw [Nat.pow_succ,Nat.mul_comm (lb vs k+1),Nat.mul_comm (BB^k) BB,Nat.mul_assoc]
  omega
 have:=Nat.lt_of_mul_lt_mul_right h3
 omega
structure Ni (V A n m j:Nat) (o ql:List Nat):Prop where
 lo:o.length=m
 xo:∀ x∈o,x<18446744073709551616
 lq:ql.length+n=m
 xq:∀ x∈ql,x<18446744073709551616
 zero:∀ i,i<j→lb ql i=0
 sum:aU o+V*aU ql=A
 small:aU (o.drop j)<V
theorem LJ {V A n m j:Nat} {o ql:List Nat} (h:Ni V A n m (j+1) o ql) (hj:j+1+n≤m) (hV:V<BB^n) :
  ((o.drop j).take (n+1)).length=n+1∧aU ((o.drop j).take (n+1))<BB*V∧aU ((o.drop j).drop (n+1))=0∧(o.take j).length=j:=by
 have hl:=h.lo
 have h1:(o.drop j).length=m-j:=by simp [hl]
 have h2:o.drop j=lb o j::o.drop (j+1):=by
  rw [List.drop_eq_getElem_cons (by omega)]
  congr 1
  unfold lb;rw [List.getElem?_eq_getElem (by omega)];rfl
 have h3:aU (o.drop j)=lb o j+BB*aU (o.drop (j+1)):=by rw [h2];rfl
 have h4:lb o j<BB:=dh (by decide) h.xo j
 have h5:aU (o.drop j)<BB*V:=by
  have:BB*(aU (o.drop (j+1))+1)≤BB*V:=Nat.mul_le_mul_left _ h.small
  rw [Nat.mul_add] at this
  omega
 have h6:=lY (o.drop j) (n+1) (by omega)
 have h7:BB*V<BB^(n+1):=by rw [Nat.pow_succ,Nat.mul_comm];exact Nat.mul_lt_mul_of_pos_right hV (by decide)
 refine ⟨by rw [List.length_take,h1];omega,by omega,?_,by rw [List.length_take];omega⟩
 rcases Nat.eq_zero_or_pos (aU ((o.drop j).drop (n+1))) with h8 | h8
 · exact h8
 · have:=Nat.mul_le_mul_left (BB^(n+1)) h8
   omega
theorem Ni.step {V A n m j:Nat} {o ql:List Nat} (h:Ni V A n m (j+1) o ql) (hj:j+1+n≤m) (hV:V<BB^n) (q r:Nat) (s':List Nat) (hs:s'.length=n+1) (hx:∀ x∈s',x<18446744073709551616)
  (hq:q<18446744073709551616) (Vu:q*V+r=aU ((o.drop j).take (n+1))) (hr:aU s'=r) (hrV:r<V):Ni V A n m j (Sg (o.take j) s' ((o.drop j).drop (n+1))) (ql.set j q):=by
 obtain ⟨h1,h2,h3,h4⟩:=LJ h hj hV
 have hl:=h.lo
 have hlq:=h.lq
 have hpost:((o.drop j).drop (n+1)).length=m-j-(n+1):=by simp only [List.length_drop,hl]
 have hset:=mZ ql j q (by omega)
 rw [h.zero j (by omega),Nat.mul_zero,Nat.add_zero] at hset
 have hw:=OL (o.take j) ((o.drop j).take (n+1)) ((o.drop j).drop (n+1))
 rw [← OM,h3,Nat.mul_zero,Nat.add_zero,h4] at hw
 have hw2:=OL (o.take j) s' ((o.drop j).drop (n+1))
 rw [h3,h4,hr] at hw2
 simp only [Nat.mul_zero,Nat.add_zero] at hw2
 have hsum:=h.sum
 refine ⟨?_,?_,by simpa using h.lq,dY h.xq hq,fun i hi=>?_,?_,?_⟩
 · rw [Jz,h4,hs,hpost];omega
 · intro x hx'
   unfold Sg at hx'
   rw [List.mem_append,List.mem_append] at hx'
   rcases hx' with hx' | hx' | hx'
   · exact h.xo x (List.mem_of_mem_take hx')
   · exact hx x hx'
   · exact h.xo x (List.mem_of_mem_drop (List.mem_of_mem_drop hx'))
 · rw [bX _ (by omega)];exact h.zero i (by omega)
 · rw [hset,hw2,Nat.mul_add V]
   have e:V*(BB^j*q)=BB^j*(q*V):=by rw [Nat.mul_left_comm,Nat.mul_comm V q]
   have e2:BB^j*aU ((o.drop j).take (n+1))=BB^j*(q*V)+BB^j*r:=by rw [← Vu,Nat.mul_add]
   omega
 · have:(Sg (o.take j) s' ((o.drop j).drop (n+1))).drop j=s'++(o.drop j).drop (n+1):=by
    unfold Sg
    rw [List.drop_append,List.drop_eq_nil_of_le (by omega),h4,Nat.sub_self,List.drop_zero,List.nil_append]
   rw [this,jd,h3,Nat.mul_zero,Nat.add_zero,hr]
   exact hrV
theorem Ni.done {V A n m:Nat} {o ql:List Nat} (h:Ni V A n m 0 o ql) (hV:V<BB^n) (hn:n≤m):A/V=aU ql∧aU (o.take n)=A%V:=by
 have h1:=h.small
 rw [List.drop_zero] at h1
 have hs:=h.sum
 have hd:=EE V A (aU ql) (aU o) (by rw [Nat.mul_comm];omega) h1
 refine ⟨hd.1,?_⟩
 rw [hd.2]
 have h6:=lY o n (by rw [h.lo];exact hn)
 rcases Nat.eq_zero_or_pos (aU (o.drop n)) with h8 | h8
 · rw [h8,Nat.mul_zero] at h6;omega
 · have:=Nat.mul_le_mul_left (BB^n) h8
   omega
theorem Ni.start (V A n m:Nat) (o:List Nat) (k:Nat) (hk:k+n=m) (hn:0<n) (hlo:o.length=m) (hx:∀ x∈o,x<18446744073709551616) (hA:aU o=A) (hlt:A<BB^(m-1)) (hV:BB^(n-1)≤V) :
  Ni V A n m k o (List.replicate k 0):=by
 refine ⟨hlo,hx,by simp;omega,by simp,fun i _=>gZ _ _,by rw [kL,Nat.mul_zero,Nat.add_zero];exact hA,?_⟩
 have h6:=lY o k (by omega)
 have h7:BB^k*aU (o.drop k)<BB^k*BB^(n-1):=by
  rw [← Nat.pow_add,show k+(n-1)=m-1 by omega];omega
 exact Nat.lt_of_lt_of_le (Nat.lt_of_mul_lt_mul_left h7) hV
structure LK (xs:List Nat) (n i:Nat) (o:List Nat):Prop where
 len:o.length=n
 at_:∀ j,lb o j=lb (xs.take i) (2*j)+4294967296*lb (xs.take i) (2*j+1)
theorem LK.start (xs:List Nat) (n:Nat):LK xs n 0 (List.replicate n 0):=⟨by simp,fun j=>by rw [gZ];simp [lb]⟩
theorem gI {xs:List Nat} {k j:Nat} (h:k≤j):lb (xs.take k) j=0:=pz (by rw [List.length_take];omega)
theorem LK.low {xs:List Nat} {n i:Nat} {o:List Nat} (h:LK xs n i o) (k:Nat) (hk:i=2*k) (hi:k<n) (x:Nat) (hx:lb xs i=x):lb o k=0∧LK xs n (i+1) (o.set k x):=by
 refine ⟨by rw [h.at_,gI (by omega),gI (by omega)],by simp [h.len],fun j=>?_⟩
 rw [iN _ _ _ _ (by rw [h.len];exact hi)]
 by_cases e:k=j
 · rw [if_pos e,← e,← hk,iA (by omega),gI (by omega),hx];omega
 · rw [if_neg e,h.at_]
   rcases Nat.lt_or_ge j k with g | g
   · rw [iA (by omega),iA (by omega),iA (by omega),iA (by omega)]
   · rw [gI (by omega),gI (by omega),gI (by omega),gI (by omega)]
theorem LK.high {xs:List Nat} {n i:Nat} {o:List Nat} (h:LK xs n i o) (k:Nat) (hk:i=2*k+1) (hi:k<n) (x:Nat) (hx:lb xs i=x):lb o k=lb xs (2*k)∧LK xs n (i+1) (o.set k (lb o k+4294967296*x)):=by
 have h0:lb o k=lb xs (2*k):=by rw [h.at_,iA (by omega),gI (j:=2*k+1) (by omega)];omega
 refine ⟨h0,by simp [h.len],fun j=>?_⟩
 rw [iN _ _ _ _ (by rw [h.len];exact hi)]
 by_cases e:k=j
 · rw [if_pos e,← e,h0,iA (by omega),iA (by omega),← hk,hx]
 · rw [if_neg e,h.at_]
   rcases Nat.lt_or_ge j k with g | g
   · rw [iA (by omega),iA (by omega),iA (by omega),iA (by omega)]
   · rw [gI (by omega),gI (by omega),gI (by omega),gI (by omega)]
theorem LK.done {xs:List Nat} {n i:Nat} {o:List Nat} (h:LK xs n i o) (hi:xs.length=i) (hn:(i+1)/2≤n) (hx:∀ x∈xs,x<4294967296):aU o=val xs∧∀ x∈o,x<18446744073709551616:=by
 have ht:xs.take i=xs:=by rw [← hi];exact List.take_length
 have e:o=iJ xs++List.replicate (n-(i+1)/2) 0:=by
  refine mP ?_ fun j hj=>?_
  · rw [List.length_append,jo,hi,List.length_replicate,h.len];omega
  · rw [h.at_,ht,pV]
    split
    · rw [wD]
    · rename_i g
      rw [jo,hi] at g
      rw [gZ,pz (o:=xs) (by omega),pz (o:=xs) (by omega)]
 refine ⟨?_,?_⟩
 · rw [e,jd,kM,kL,Nat.mul_zero,Nat.add_zero]
 · rw [e]
   intro x hx'
   rw [List.mem_append] at hx'
   rcases hx' with hx' | hx'
   · exact nP xs hx x hx'
   · rw [List.mem_replicate] at hx'
     omega
end Go.Proofs.YtdpmbgomcjnohaaGreatDoor
/- Words copied; sums of rows; a row without words at its end. -/
namespace Go.Proofs.YtdpmbgomcjnohaaGreatDoor
open Go.RowKit
set_option linter.unusedVariables false
set_option maxHeartbeats 400000
theorem vX (o xs:List Nat) (off:Nat) (h:off+xs.length≤o.length) (hz:∀ j,off≤j→j<off+xs.length→lb o j=0):aU (splice o off xs)=aU o+BB^off*aU xs:=by
 have e1:=lY o off (by omega)
 have e2:=lY (o.drop off) xs.length (by rw [List.length_drop];omega)
 have e3:aU ((o.drop off).take xs.length)=0:=by
  have:(o.drop off).take xs.length=List.replicate xs.length 0:=by
   refine mP (by simp;omega) fun j hj=>?_
   have hj':j<xs.length:=by simp at hj;omega
   rw [iA hj',Ai,gZ,hz _ (by omega) (by omega)]
  rw [this,kL]
 rw [e3,Nat.zero_add,List.drop_drop] at e2
 unfold splice
 rw [jd,jd,List.length_take,Nat.min_eq_left (by omega),e1,e2,Nat.mul_add]
 omega
theorem C9 (o xs:List Nat) (off:Nat) (h:off+xs.length≤o.length):(splice o off xs).length=o.length:=length_splice o off xs h
theorem yV (o xs:List Nat) (off:Nat) (ho:∀ x∈o,x<18446744073709551616) (hx:∀ x∈xs,x<18446744073709551616):∀ x∈splice o off xs,x<18446744073709551616:=by
 intro x h
 unfold splice at h
 rcases List.mem_append.1 h with h | h
 · exact ho x (List.mem_of_mem_take h)
 · rcases List.mem_append.1 h with h | h
   · exact hx x h
   · exact ho x (List.mem_of_mem_drop h)
theorem DR (o xs:List Nat) (off j:Nat) (h:off+xs.length≤o.length) (hj:off+xs.length≤j):lb (splice o off xs) j=lb o j:=by
 unfold splice
 rw [pV,if_neg (by simp;omega),pV,if_neg (by simp;omega),Ai]
 congr 1
 simp;omega
theorem K4 (o xs:List Nat) (off:Nat) (t:List Value) (h:off+xs.length≤o.length):splice (mY o++t) off (mY xs)=mY (splice o off xs)++t:=by
 unfold splice
 rw [dJ,List.take_append_of_le_length (by rw [dJ];omega),List.drop_append_of_le_length (by rw [dJ];omega)]
 simp [mY,List.map_take,List.map_drop]
theorem qZ {w:World} {ops:Array Oper} {rest:List Oper} {o:Oper} {a:Act} {Q:Exit→Act→World→Prop} (hgd:o.guard=none) (d s:Operand)
  (ho:o.op = .call { callee:=.builtin .copy,args:=#[d,s],argTypes:=#[139,139] }) (g off dLen dCap:Nat) (sp:Option Addr) (sLen sCap:Nat)
  (hd:a.eval d = .slice (some ⟨g,off,none⟩) dLen dCap) (hs:a.eval s = .slice sp sLen sCap) (base n c:Nat) (os:List Nat) (hown:Ow w base (.slice (some ⟨g,0,none⟩) n c) os)
  (xs:List Nat) (hx:V g w (.slice sp sLen sCap) xs) (hle:sLen≤dLen) (hfit:off+dLen≤n)
  (h:∀ w',Ow w' base (.slice (some ⟨g,0,none⟩) n c) (splice os off xs)→But g w w'→wpList Tryz.prog ops Q rest (a.put o.dst (goInt xs.length)) w'):wpList Tryz.prog ops Q (o::rest) a w:=by
 obtain ⟨A,c',hv,hcc,hlim,hr⟩:=hx
 injection hv with q1 q2 q3
 have hi:(Tryz.prog.info? 100).map (·.size)=some 1:=by kernel_rfl
 have hlen:(mY xs).length=xs.length:=dJ xs
 have aaA:=hown.caps
 rcases Nat.eq_zero_or_pos xs.length with h0 | h0
 · obtain rfl:=List.eq_nil_of_length_eq_zero h0
   have q2':sLen=0:=q2
   rw [q2'] at hs
   refine wpList_copy_nothing hgd d s 139 139 ho 100 Tryz.underlying139 hi _ _ dLen dCap 0 sCap hd hs (Nat.zero_min _) ?_
   refine h w ?_ (But.refl g w)
   have e:splice os off ([]:List Nat)=os:=by simp [splice]
   rw [e];exact hown
 · obtain ⟨ad,hA,hb,hne,hcell⟩:=hr h0
   have hh0:w.ownsRow base 100 1 (.slice (some ⟨g,0,none⟩) n c) os.length (mY os):=hown
   rcases hh0.2 with ⟨h1,_⟩ | ⟨g',cap,cur,h1,hg,hh,h2,h3,h4,h5⟩
   · cases h1
   · injection h1 with e1 e2 e3
     injection e1 with e1
     injection e1 with e1
     subst e1
     have XN:cur.toList=mY os++cur.toList.drop os.length:=by
      conv=>lhs;rw [← List.take_append_drop os.length cur.toList]
      rw [← h5,Nat.mul_one]
     have hsz:os.length≤cur.size:=by omega
     refine wpList_copy_own hgd d s 139 139 ho 100 Tryz.underlying139 hi g off dLen dCap ad sLen sCap hd (by rw [hs,q1,hA]) cur 100 hh (mY xs) (by rw [hlen,← q2];exact (Nat.min_eq_left hle).symm) ?_ (by rw [hlen];omega) (by intro u hu;obtain ⟨z,_,rfl⟩:=List.mem_map.1 hu;rfl) ?_
     · intro j u hj
       have hjl:j<xs.length:=by
        rcases Nat.lt_or_ge j xs.length with h | h
        · exact h
        · rw [List.getElem?_eq_none (by rw [dJ];exact h)] at hj;cases hj
       rw [hcell j hjl,← M3 xs hjl,hj]
     · rw [hlen]
       have e:cur.toList.take off++(mY xs++cur.toList.drop (off+xs.length))=mY (splice os off xs)++cur.toList.drop os.length:=by
        rw [← K4 os xs off _ (by omega),← XN]
        unfold splice
        rw [hlen]
       have hsl:=C9 os xs off (by omega)
       refine h _ ?_ ⟨rfl,rfl,rfl,by simp [World.setRow],fun k hk hne=>setRow_other w g k _ (fun e=>hne (by rw [e]))⟩
       refine ⟨by rw [dJ,Nat.mul_one],.inr ⟨g,cap,_,by rw [e2,e3,hsl],hg,setRow_heap w g _ _ _ _ hh,by rw [hsl];exact h2,h3,?_,?_⟩⟩
       · rw [e,List.size_toArray,List.length_append,dJ,hsl,List.length_drop,Array.length_toList (xs:=cur)]
         omega
       · rw [e,Nat.mul_one,List.take_append_of_le_length (by rw [dJ];exact Nat.le_refl _),← dJ (splice os off xs),List.take_length]
set_option maxRecDepth 100000 in
set_option maxHeartbeats 2000000 in
theorem EB (w:World) (q:Nat) (va vb:Value) (cZ bs:List Nat) (ha:V q w va cZ) (hb:V q w vb bs) (m:Nat) (hm:max cZ.length bs.length+1=m) (hm1:m≤100000) :
  Calls Tryz.prog 182 #[va,vb] w fun e w'=>e = .returned (.slice (some ⟨w.heap.size,0,none⟩) m m)∧(∃ o,Ow w' w.heap.size (.slice (some ⟨w.heap.size,0,none⟩) m m) o∧aU o=aU cZ+aU bs∧(∀ x∈o,x<18446744073709551616)∧o.length=m)∧Ext w w':=by
 have la:=ha.lim
 have lb':=hb.lim
 have wa:=uV cZ la
 have wb:=uV bs lb'
 obtain ⟨A,ca,rfl,hca⟩:=ha.shape
 obtain ⟨A2,cb,rfl,hcb⟩:=hb.shape
 obtain ⟨na,hna⟩:∃ na,cZ.length=na:=⟨_,rfl⟩
 obtain ⟨nb,hnb⟩:∃ nb,bs.length=nb:=⟨_,rfl⟩
 have YH:=Lib.hid hna
 have HNB:=Lib.hid hnb
 rw [hna] at ha hca hm wa ⊢
 rw [hnb] at hb hcb hm wb ⊢
 obtain ⟨i0,hi,hz0,hz1,hz2⟩:=info_parts rO
 obtain ⟨m1,ai5⟩:∃ m1,max na nb=m1:=⟨_,rfl⟩
 have hmi:(if (na:Int)<(nb:Int) then (nb:Int) else (na:Int))=(m1:Int):=by split<;>omega
 have ai6:(if na<nb then (nb:Int) else (na:Int))=(m1:Int):=by split<;>omega
 have ai7:max (na:Int) (nb:Int)=(m1:Int):=by omega
 have ai8:(m1:Int)+1=(m:Int):=by omega
 have ai9:na<m:=by omega
 have ai':nb<m:=by omega
 have hfit:BB^na+BB^nb≤BB^m:=by
  have h1:BB^na≤BB^(m-1):=Nat.pow_le_pow_right (by decide) (by omega)
  have h2:BB^nb≤BB^(m-1):=Nat.pow_le_pow_right (by decide) (by omega)
  have h3:BB^m=BB^(m-1)*BB:=by rw [← Nat.pow_succ];congr 1;omega
  rw [h3]
  unfold BB at *
  omega
 have HW:Hid (aU cZ+aU bs<BB^m):=by rw [Hid];omega
 obtain ⟨B,hB⟩:∃ B,w.heap.size=B:=⟨_,rfl⟩
 clear wa wb hfit hna hnb hm
 rw [hB]
 have Dl:=Lib.hid hB
 go_enter Tryz.func182,Tryz.ntmps182
 go_wp2_with (first
  | (at_make;refine wpList_make_full _ rfl _ _ 139 rfl w.heap.size 100 i0 (.int .u64 0) 1 Tryz.underlying139 hi hz0 hz1 _ _ _ _ m rfl rfl (by omega) (by omega) (by rw [hz2];omega) (by unfold maxLen;omega) (Nat.le_refl _) ?_;intro w1 hown hgrow;have ho0:=Ow.zeros hown;rw [hB] at ho0;have hE0:Ext w w1:=(Ext.refl w).grown hgrow (Nat.le_refl _) (fun _ h=>by cases h);have ha1:=(ha.new (g:=B) (by omega)).below hE0;have hb1:=(hb.new (g:=B) (by omega)).below hE0;clear hown hgrow)
  | (refine qZ (o:=⟨some 15,_,_,_,_,_⟩) rfl (.tmp 13) (.tmp 14) rfl B 0 m m A na ca rfl rfl B m m (List.replicate m 0) ho0 cZ ha1 (by omega) (by omega) ?_;intro w2 hown2 Sb)
  | fail)
 have hsp:=vX (List.replicate m 0) cZ 0 (by simp;rw [YH.out];omega) (fun j _ _=>gZ m j)
 have hsl:=yV (List.replicate m 0) cZ 0 (fun x hx=>by simp at hx;omega) la
 have hb2:=hb1.but Sb
 refine (pg w2 B B m m 0 m m _ bs _ hown2 hsl (by omega) (Nat.le_refl _) (by omega) hb2 (by rw [HNB.out];omega)).mono ?_
 rintro e w3 ⟨⟨o',cy,rfl,HA,hown3⟩,hB3⟩
 have hval:=HA.val
 rw [hsp,kL,Nat.pow_zero,Nat.one_mul,Nat.one_mul,Nat.zero_add,Nat.zero_add] at hval
 have hcy:cy=0:=by
  have h1:=HW.out
  rcases Nat.eq_zero_or_pos cy with h | h
  · exact h
  · have:cy=1:=by have:=HA.zT;omega
    subst this
    omega
 rw [hcy,Nat.mul_zero,Nat.add_zero] at hval
 have HF:Hid (∃ o,Ow w3 B (.slice (some ⟨B,0,none⟩) m m) o∧aU o=aU cZ+aU bs∧(∀ x∈o,x<18446744073709551616)∧o.length=m):=⟨o',hown3,hval,HA.lt,HA.len⟩
 have aJ:Ext w w3:=(hE0.but Sb (by omega)).but hB3 (by omega)
 clear hval hown3 hown2 HA hB3 Sb hsp hsl ha1 hb1 hb2 hE0 ho0 hcy
 go_wp2
 go_ret
 exact ⟨rfl,HF.out,aJ⟩
theorem Od (w:World) (A:Option Addr) (l c n k:Nat) (hl:l≤c) (hk:min n l=k) (hn:n≤1000000) :
  Calls Tryz.prog 184 #[.slice A l c,.int .i64 (n:Nat)] w fun e w'=>e = .returned (.slice A k c)∧w=w':=by
 have hki:(if (l:Int)<(n:Int) then (l:Int) else (n:Int))=(k:Int):=by split<;>omega
 have aja:(if l<n then (l:Int) else (n:Int))=(k:Int):=by split<;>omega
 have ajb:min (n:Int) (l:Int)=(k:Int):=by omega
 have hkl:k≤c:=by omega
 clear hk
 go_enter Tryz.func184,Tryz.ntmps184
 go_wp2
 go_ret
 exact ⟨rfl,rfl⟩
end Go.Proofs.YtdpmbgomcjnohaaGreatDoor
