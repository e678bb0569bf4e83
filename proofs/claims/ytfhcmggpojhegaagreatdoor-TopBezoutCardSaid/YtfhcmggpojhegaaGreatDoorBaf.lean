/- Sums of products, one by one. -/
import Derived.Test.YtfhcmggpojhegaaGreatDoorBae
import Derived.Laws.Externs
import Derived.Laws.StructEq
import Derived.Laws.Cover2
import Derived.Laws.Tables
import Derived.Laws.Small

namespace Go.Proofs.YtfhcmggpojhegaaGreatDoor
open Go.RowKit
set_option linter.unusedVariables false
set_option maxHeartbeats 400000
theorem Tw (x y:Nat) (w:World) :
  (callFunc 109 #[.int .u64 (x:Nat),.int .u64 (y:Nat),.int .u64 0]).run Tryz.prog w = .ok (.value (.tuple #[.int .u64 ((x+y)%18446744073709551616:Nat),.int .u64 ((x+y)/18446744073709551616:Nat)])) w:=by
 rw [run_callFunc_extern Tryz.func109 (by kernel_rfl) (by kernel_rfl) (by kernel_rfl) (e:=add64Entry) (by kernel_rfl),run_add64 x y 0 (by omega) (by omega) (by omega) (by omega)]
 simp only [Result.andThen]
 congr 5<;>omega
theorem ag4 (s t:Nat) (hs:s<79228162514264337593543950336) (ht:t<18446744073709551616) (hst:s+t<79228162514264337593543950336) :
  (s/4294967296%4294967296*4294967296+s%4294967296+t)%18446744073709551616%4294967296=(s+t)%4294967296 ∧
  (s/4294967296%4294967296*4294967296+s%4294967296+t)%18446744073709551616/4294967296=(s+t)/4294967296%4294967296 ∧
  s/18446744073709551616%4294967296+(s/4294967296%4294967296*4294967296+s%4294967296+t)/18446744073709551616=(s+t)/18446744073709551616%4294967296:=by
 refine ⟨?_,?_,?_⟩<;>omega
set_option maxRecDepth 100000 in
set_option maxHeartbeats 4000000 in
theorem KT (w:World) (v u:Value) (a b:List Nat) (h:U w v a) (g:U w u b) (ha0:0<a.length) (hb0:0<b.length) (hal:a.length≤1000000) (hbl:b.length≤1000000) :
  Calls Tryz.prog 110 #[v,u] w fun e w'=>(∃ gg,e = .returned (.slice (some ⟨gg,0,none⟩) (conv a b).length (conv a b).length)∧Own3 w' w.heap.size (.slice (some ⟨gg,0,none⟩) (conv a b).length (conv a b).length) (conv a b))∧Ext w w':=by
 obtain ⟨A,c,rfl,⟨hc,hm⟩,hx,hr⟩:=id h
 obtain ⟨A2,c2,rfl,⟨hc2,hm2⟩,hx2,hr2⟩:=id g
 obtain ⟨ad,rfl,hb,hcell⟩:=hr ha0
 obtain ⟨Vq,rfl,hb2,hcell2⟩:=hr2 hb0
 clear hr hr2
 have hcl:=zW a b
 have HCV:=Lib.hid (fun m=>KR a b m)
 obtain ⟨i0,hi,hz0,hz1,hz2⟩:=info_parts info3
 obtain ⟨na,hna⟩:∃ na,a.length=na:=⟨_,rfl⟩
 obtain ⟨nb,hnb⟩:∃ nb,b.length=nb:=⟨_,rfl⟩
 rw [hna,hnb] at hcl
 rw [hna] at hc hm hcell ha0 hal ⊢
 rw [hnb] at hc2 hm2 hcell2 hb0 hbl ⊢
 obtain ⟨n,hn⟩:∃ n,na+nb-1=n:=⟨_,rfl⟩
 have hnn:(na:Int)+(nb:Int)-1=(n:Int):=by omega
 rw [hn] at hcl
 have XN:=Lib.hid hcl
 have HNA:=Lib.hid hna
 have HNB:=Lib.hid hnb
 have HN:=Lib.hid hn
 clear hcl hna hnb h g
 go_enter Tryz.func110,Tryz.ntmps110
 go_wp2_with (at_make;refine wpList_make_full _ rfl _ _ 66 rfl (w.heap.size) 149 i0 (.agg #[.int .u32 0,.int .u32 0,.int .u32 0]) 3 Tryz.underlying66 hi hz0 hz1 _ _ _ _ n rfl rfl (by omega) (by omega) (by rw [hz2];omega) (by unfold maxLen;omega) (Nat.le_refl _) ?_;intro w1 hown hgrow)
 have ho0:Own3 w1 w.heap.size (.slice (some ⟨w.heap.size,0,none⟩) n n) (List.replicate n 0):=by
  have:=hown
  rw [FC] at this
  unfold Own3
  rw [List.length_replicate]
  exact this
 have hB0:Ext w w1:=(Ext.refl w).grown hgrow (Nat.le_refl _) (fun _ h=>by cases h)
 clear hown hgrow hi hz0 hz1 hz2 i0
 obtain ⟨B,hB⟩:∃ B,w.heap.size=B:=⟨_,rfl⟩
 have XO:=Lib.hid hB
 rw [hB] at hb hb2 ho0 ⊢
 clear hB
 go_loopw [23] (fun t wr=>∃ (i:Nat) (o:List Nat),i≤na∧t = .int .i64 (i:Nat)∧Hid (o.length=n∧∀ m,m<n→lb o m=cv a b i m)∧Own3 wr B (.slice (some ⟨B,0,none⟩) n n) o∧Ext w wr) (fun t _=>na-(intOf t).toNat)
 case atStart=>exact ⟨0,_,Nat.zero_le _,rfl,⟨by simp,fun m hm=>by rw [ig];rfl⟩,ho0,hB0⟩
 case round =>
  clear ho0 hB0
  obtain ⟨i,o,hi,rfl,HO,hown,hE⟩:=hrel
  by_cases hlt:i<na
  · have hc1:=(hE.cell (p:=ad.add i) (by rw [aJ];have:=XO.out;omega)).trans (hcell i hlt)
    have hx1:=eU hx i
    obtain ⟨x,EI⟩:∃ x,lb a i=x:=⟨_,rfl⟩
    rw [EI] at hc1 hx1
    have HXX:=Lib.hid EI
    clear EI
    go_wp2
    go_loopw [30] (fun t wr=>∃ (j:Nat) (o:List Nat),j≤nb∧t = .int .i64 (j:Nat)∧Hid (o.length=n∧∀ m,m<n→lb o m=cvp a b i j m)∧Own3 wr B (.slice (some ⟨B,0,none⟩) n n) o∧Ext w wr) (fun t _=>nb-(intOf t).toNat)
    case atStart=>exact ⟨0,o,Nat.zero_le _,rfl,⟨HO.out.1,fun m hm=>by rw [HO.out.2 m hm,XI]⟩,hown,hE⟩
    case round =>
     clear hown hE HO hc1
     obtain ⟨j,o,hj,rfl,HO,hown,hE⟩:=hrel
     by_cases hjt:j<nb
     · have hc2:=(hE.cell (p:=Vq.add j) (by rw [aJ];have:=XO.out;omega)).trans (hcell2 j hjt)
       have hy1:=eU hx2 j
       obtain ⟨y,Mv⟩:∃ y,lb b j=y:=⟨_,rfl⟩
       rw [Mv] at hc2 hy1
       have HYY:=Lib.hid Mv
       clear Mv
       have hij:i+j<n:=by have:=HN.out;omega
       obtain ⟨t,htt⟩:∃ t,x*y=t:=⟨_,rfl⟩
       have ht:t<18446744073709551616:=by rw [← htt];have:=M9 hx1 hy1;omega
       have htI:(x:Int)*(y:Int)=(t:Int):=by rw [← htt,Int.natCast_mul]
       have hl:=afq o (i+j) (by rw [HO.out.1];exact hij)
       obtain ⟨S,hS⟩:∃ S,lb o (i+j)=S:=⟨_,rfl⟩
       rw [hS] at hl
       have hS1:S+t<79228162514264337593543950336:=by
        have h1:=XL a b hx hx2 i (i+j)
        have h2:=HO.out.2 (i+j) hij
        rw [hS] at h2
        unfold cvp at h2
        have h3:(if i≤i+j∧i+j-i<j then lb a i*lb b (i+j-i) else 0)≤18446744065119617025:=by
         split
         · exact M9 (eU hx _) (eU hx2 _)
         · omega
        have h4:=M9 hx1 hy1
        omega
       have HTT:=Lib.hid htt
       have k0:=hown.cell (j:=(i+j)*3) (by rw [HO.out.1];omega)
       have k1:=hown.cell (j:=(i+j)*3+1) (by rw [HO.out.1];omega)
       have k2:=hown.cell (j:=(i+j)*3+2) (by rw [HO.out.1];omega)
       have f0:=hown.frozen ((i+j)*3)
       have f1:=hown.frozen ((i+j)*3+1)
       have f2:=hown.frozen ((i+j)*3+2)
       rw [hl.1] at k0
       rw [hl.2.1] at k1
       rw [hl.2.2] at k2
       have hnew:=hown.mQ (i+j) (S+t) (by rw [HO.out.1];exact hij)
       have H3:=Lib.hid (ag4 S t (by omega) ht hS1)
       obtain ⟨s0,hs0⟩:∃ s0,S%4294967296=s0:=⟨_,rfl⟩
       obtain ⟨s1,hs1⟩:∃ s1,S/4294967296%4294967296=s1:=⟨_,rfl⟩
       obtain ⟨s2,hs2⟩:∃ s2,S/18446744073709551616%4294967296=s2:=⟨_,rfl⟩
       rw [hs0] at k0 H3
       rw [hs1] at k1 H3
       rw [hs2] at k2 H3
       have b0:s0<4294967296:=by rw [← hs0];exact Nat.mod_lt _ (by decide)
       have b1:s1<4294967296:=by rw [← hs1];exact Nat.mod_lt _ (by decide)
       have b2:s2<4294967296:=by rw [← hs2];exact Nat.mod_lt _ (by decide)
       obtain ⟨m,hm⟩:∃ m,s1*4294967296=m:=⟨_,rfl⟩
       have hmI:(s1:Int)*4294967296=(m:Int):=by omega
       have hmw:IntKind.u64.wrap ((s1:Int)*4294967296)=(m:Int):=by rw [IntKind.wrap_u64];omega
       obtain ⟨lo,hlo⟩:∃ lo,m+s0=lo:=⟨_,rfl⟩
       have hor:bits .or .u64 (m:Int) (s0:Int)=(lo:Int):=by
        rw [u64_or_nat _ _ (by omega) (by omega),nat_join 32 m s0 (by rw [← hm];exact Nat.mul_mod_left _ _) b0,hlo]
       have hlow:IntKind.u64.wrap (lo:Int)=(lo:Int):=by rw [IntKind.wrap_u64];omega
       have hadd:=fun w=>Tw lo t w
       rw [hm,hlo] at H3
       obtain ⟨l1,hl1⟩:∃ l1,(lo+t)%18446744073709551616=l1:=⟨_,rfl⟩
       obtain ⟨c1,hc1⟩:∃ c1,(lo+t)/18446744073709551616=c1:=⟨_,rfl⟩
       rw [hl1,hc1] at hadd H3
       have bl:l1<18446744073709551616:=by rw [← hl1];exact Nat.mod_lt _ (by decide)
       have bc:c1≤1:=by omega
       clear hl hs0 hs1 hs2 hm hlo hl1 hc1 htt
       obtain ⟨n0,hn0⟩:∃ n0,(S+t)%4294967296=n0:=⟨_,rfl⟩
       obtain ⟨n1,hn1⟩:∃ n1,(S+t)/4294967296%4294967296=n1:=⟨_,rfl⟩
       obtain ⟨n2,hn2⟩:∃ n2,(S+t)/18446744073709551616%4294967296=n2:=⟨_,rfl⟩
       rw [hn0,hn1,hn2] at hnew H3
       have d0:n0<4294967296:=by rw [← hn0];exact Nat.mod_lt _ (by decide)
       have d1:n1<4294967296:=by rw [← hn1];exact Nat.mod_lt _ (by decide)
       have d2:n2<4294967296:=by rw [← hn2];exact Nat.mod_lt _ (by decide)
       obtain ⟨e0,e1,e2⟩:=H3.out
       have i0:(l1:Int)%4294967296=(n0:Int):=by omega
       have i0w:IntKind.u32.wrap (l1:Int)=(n0:Int):=by rw [IntKind.wrap_u32];omega
       have i1:(l1:Int)/4294967296=(n1:Int):=by omega
       have i1w:IntKind.u32.wrap (n1:Int)=(n1:Int):=by rw [IntKind.wrap_u32];omega
       have i1m:(n1:Int)%4294967296=(n1:Int):=by omega
       have i2:(s2:Int)+(c1:Int)=(n2:Int):=by omega
       have i2w:IntKind.u32.wrap ((s2:Int)+(c1:Int))=(n2:Int):=by rw [IntKind.wrap_u32];omega
       have i2n:IntKind.u32.wrap (n2:Int)=(n2:Int):=by rw [IntKind.wrap_u32];omega
       have i2m:(n2:Int)%4294967296=(n2:Int):=by omega
       have icw:IntKind.u32.wrap (c1:Int)=(c1:Int):=by rw [IntKind.wrap_u32];omega
       have icm:(c1:Int)%4294967296=(c1:Int):=by omega
       clear H3 e0 e1 e2 hn0 hn1 hn2
       have HO2:Hid ((o.set (i+j) (S+t)).length=n∧∀ m,m<n→lb (o.set (i+j) (S+t)) m=cvp a b i (j+1) m):=by
        refine ⟨by rw [List.length_set];exact HO.out.1,fun m hm=>?_⟩
        rw [iT _ _ _ _ (by rw [HO.out.1];exact hij),XK,← HO.out.2 m hm]
        by_cases e:i+j=m
        · rw [if_pos e,if_pos e.symm,← e,hS,HXX.out,HYY.out,HTT.out]
        · rw [if_neg e,if_neg (Ne.symm e)];rfl
       have arO:=Lib.hid hnew
       have hE2:=((hE.setCell (p:=⟨B,(i+j)*3,none⟩) (by show w.heap.size≤B;have:=XO.out;omega) (.int .u32 (n0:Nat))).setCell (p:=⟨B,(i+j)*3+1,none⟩) (by show w.heap.size≤B;have:=XO.out;omega) (.int .u32 (n1:Nat))).setCell (p:=⟨B,(i+j)*3+2,none⟩) (by show w.heap.size≤B;have:=XO.out;omega) (.int .u32 (n2:Nat))
       clear hS hnew
       go_wp2
       go_region
       go_wp2
       go_region
       go_wp2
       go_roundw
       case rel=>exact ⟨j+1,_,by omega,by go_num,HO2,arO.out,hE2.drew.drew⟩
       case measure=>simp [intOf];omega
     · obtain rfl:j=nb:=by omega
       have HO3:Hid (o.length=n∧∀ m,m<n→lb o m=cv a b (i+1) m):=⟨HO.out.1,fun m hm=>by rw [HO.out.2 m hm,XJ _ _ _ _ _ (by rw [HNB.out];exact Nat.le_refl _)]⟩
       clear HO
       go_wp2
       go_roundw
       case rel=>exact ⟨i+1,o,by omega,by go_num,HO3,hown,hE⟩
       case measure=>simp [intOf];omega
  · obtain rfl:i=na:=by omega
    have hcv:o=conv a b:=by
     refine kZ (by rw [HO.out.1,XN.out]) fun m hm=>?_
     rw [HO.out.1] at hm
     rw [HO.out.2 m hm,HCV.out m (by rw [HNA.out,HNB.out,HN.out];exact hm),HNA.out]
    have HF:Hid (∃ gg,Ending.returned (.slice (some ⟨B,0,none⟩) n n) = .returned (.slice (some ⟨gg,0,none⟩) (conv a b).length (conv a b).length)∧Own3 wr w.heap.size (.slice (some ⟨gg,0,none⟩) (conv a b).length (conv a b).length) (conv a b)):=by
     refine ⟨B,by rw [XN.out],?_⟩
     rw [hcv] at hown
     rw [XN.out,XO.out];exact hown
    clear HO hown hcv
    go_wp2
    go_ret
    exact ⟨HF.out,hE⟩
end Go.Proofs.YtfhcmggpojhegaaGreatDoor
/- Are two rows the same; sums of products of short rows. -/
namespace Go.Proofs.YtfhcmggpojhegaaGreatDoor
open Go.RowKit
set_option linter.unusedVariables false
set_option maxHeartbeats 400000
def U3 (w:World) (v:Value) (cs:List Nat):Prop :=
 ∃ (A:Option Addr) (c:Nat),v = .slice A cs.length c∧(cs.length≤c∧cs.length≤9223372036854775807) ∧
  (0<cs.length→∃ ad,A=some ad∧ad.block<w.heap.size∧∀ j,j<cs.length*3→w.cell? (ad.add j)=some (.int .u32 (lb (fl cs) j:Nat)))
theorem U3.below {w w':World} {v:Value} {cs:List Nat} (h:U3 w v cs) (hb:Below w.heap.size w w'):U3 w' v cs:=by
 obtain ⟨A,c,rfl,hc,hr⟩:=h
 refine ⟨A,c,rfl,hc,fun h0=>?_⟩
 obtain ⟨ad,hA,hbk,hcell⟩:=hr h0
 exact ⟨ad,hA,Nat.lt_of_lt_of_le hbk hb.size,fun j hj=>(hb.cell (p:=ad.add j) (by rw [aJ];exact hbk)).trans (hcell j hj)⟩
theorem U3.alloc {w:World} {v:Value} {xs:List Nat} (h:U3 w v xs) (o:Obj):U3 (w.alloc o) v xs:=U3.below h ((Ext.refl w).alloc o)
theorem U3.Eo (w:World) (A:Option Addr) (c:Nat):U3 w (.slice A 0 c) []:=⟨A,c,rfl,⟨Nat.zero_le _,Nat.zero_le _⟩,fun h=>absurd h (by simp)⟩
theorem Own3.KG {w:World} {base g n c:Nat} {o:List Nat} (h:Own3 w base (.slice (some ⟨g,0,none⟩) n c) o):U3 w (.slice (some ⟨g,0,none⟩) n c) o:=by
 obtain ⟨e,h1,h2⟩:=h.caps
 subst e
 refine ⟨_,c,rfl,⟨h1,by unfold maxLen at h2;omega⟩,fun h0=>⟨_,rfl,h.block.2,fun j hj=>?_⟩⟩
 rw [lQ];exact h.cell hj
theorem KU (a:Addr) (n:Nat) (h:n≠0):a.add n=⟨a.block,a.off+n,none⟩:=by unfold Addr.add;simp [h]
end Go.Proofs.YtfhcmggpojhegaaGreatDoor
/- Sums of products of rows of which one is short. -/
namespace Go.Proofs.YtfhcmggpojhegaaGreatDoor
open Go.RowKit
set_option linter.unusedVariables false
set_option maxHeartbeats 400000
def EL (a b:List Nat):List Nat:=if a.length=0∨b.length=0 then [] else conv a b
theorem Tx (a b:List Nat) (h:a.length=0∨b.length=0):EL a b=[]:=if_pos h
theorem KV (a b:List Nat) (ha:0<a.length) (hb:0<b.length):EL a b=conv a b:=if_neg (by omega)
theorem PX (w:World) (v u:Value) (a b:List Nat) (h:U w v a) (g:U w u b) (he:a.length=0∨b.length=0) :
  Calls Tryz.prog 44 #[v,u] w fun e w'=>e = .returned (.slice none 0 0)∧w=w':=by
 obtain ⟨A,c,rfl,_⟩:=h.shape
 obtain ⟨A2,c2,rfl,_⟩:=g.shape
 clear h g
 generalize a.length=na at *
 generalize b.length=nb at *
 by_cases h0:na=0
 · subst h0
   go_enter Tryz.func44,Tryz.ntmps44
   go_wp2
   go_ret
   exact ⟨rfl,rfl⟩
 · have hb:nb=0:=by omega
   subst hb
   have hz:(((na:Nat):Int)==0)=false:=by rw [beq_eq_false_iff_ne];omega
   clear he h0
   go_enter Tryz.func44,Tryz.ntmps44
   go_wp2
   go_ret
   exact ⟨rfl,rfl⟩
theorem PY (w:World) (v u:Value) (a b:List Nat) (h:U w v a) (g:U w u b) (hal:a.length≤1000000) (hbl:b.length≤1000000) (hs:min a.length b.length≤24) :
  Calls Tryz.prog 44 #[v,u] w fun e w'=>(∃ z,e = .returned z∧U3 w' z (EL a b))∧Ext w w':=by
 by_cases he:a.length=0∨b.length=0
 · exact (PX w v u a b h g he).mono fun e w' ⟨h1,h2⟩=>⟨⟨_,h1,by rw [Tx a b he];exact U3.Eo _ _ _⟩,by rw [← h2];exact Ext.refl w⟩
 · have ha0:0<a.length:=by omega
   have hb0:0<b.length:=by omega
   have HD:=Lib.hid (KT w v u a b h g ha0 hb0 hal hbl)
   rw [KV a b ha0 hb0]
   obtain ⟨A,c,rfl,_⟩:=h.shape
   obtain ⟨A2,c2,rfl,_⟩:=g.shape
   clear h g
   generalize a.length=na at *
   generalize b.length=nb at *
   have hz:(((na:Nat):Int)==0)=false:=by rw [beq_eq_false_iff_ne];omega
   have hz2:(((nb:Nat):Int)==0)=false:=by rw [beq_eq_false_iff_ne];omega
   obtain ⟨m,hm⟩:∃ m,min na nb=m:=⟨_,rfl⟩
   have SX:min ((na:Nat):Int) ((nb:Nat):Int)=(m:Int):=by omega
   have azl:m≤24:=by omega
   have hmd:decide ((m:Int)≤24)=true:=by rw [decide_eq_true_iff];omega
   clear hs
   clear he
   go_enter Tryz.func44,Tryz.ntmps44
   go_wp2_with (fail)
   all_goals
    refine HD.out.mono ?_
    rintro e w1 ⟨⟨gg,rfl,ho⟩,hB⟩
    have hU:=ho.KG
    clear ho
    generalize (conv a b).length=n at *
    have HF:Hid (∃ z,Ending.returned (.slice (some ⟨gg,0,none⟩) n n) = .returned z∧U3 w1 z (conv a b)):=⟨_,rfl,hU⟩
    clear hU
    go_wp2
    go_ret
    exact ⟨HF.out,hB⟩
end Go.Proofs.YtfhcmggpojhegaaGreatDoor
/- The transform as one row of numbers; the contracts in one form. -/
namespace Go.Proofs.YtfhcmggpojhegaaGreatDoor
open Go.RowKit
set_option linter.unusedVariables false
set_option maxHeartbeats 400000
def kF:Nat→(Nat→Nat)→Nat
 | 0,_=>0
 | n+1,f=>kF n f+f n
theorem Vr (n:Nat) (f:Nat→Nat):((kF n f:Nat):Int)=sm n fun i=>((f i:Nat):Int):=by
 induction n with
 | zero=>rfl
 | succ n ih=>rw [kF,iQ,← ih,Int.natCast_add]
theorem PZ {n:Nat} {f g:Nat→Nat} (h:∀ i,i<n→f i=g i):kF n f=kF n g:=by
 induction n with
 | zero=>rfl
 | succ n ih=>rw [kF,kF,ih fun i hi=>h i (by omega),h n (by omega)]
theorem XP (n p:Nat) (f g:Nat→Nat) (h:∀ i,i<n→f i%p=g i%p):kF n f%p=kF n g%p:=by
 induction n with
 | zero=>rfl
 | succ n ih=>rw [kF,kF,Nat.add_mod,ih fun i hi=>h i (by omega),h n (by omega),← Nat.add_mod]
def dv (p W S n:Nat) (l:List Nat) (j:Nat):Nat:=S*kF n (fun i=>lb l i*W^(i*j))%p
def Vs (p W S n:Nat) (l:List Nat):List Nat:=(List.range n).map (dv p W S n l)
theorem adi (p W S n:Nat) (l:List Nat):(Vs p W S n l).length=n:=by simp [Vs]
theorem ag5 (p W S n:Nat) (l:List Nat) (j:Nat) (h:j<n):lb (Vs p W S n l) j=dv p W S n l j:=KQ _ _ _ h
theorem ag6 (p W S n:Nat) (l:List Nat) (j:Nat):dv p W S n l j=dv p (W%p) (S%p) n l j:=by
 unfold dv
 rw [zP,Nat.mul_mod,XP n p _ (fun i=>lb l i*(W%p)^(i*j)) (fun i _=>by rw [Nat.mul_mod,← Fu,← Nat.mul_mod]),← Nat.mul_mod]
theorem adj (p W S n:Nat) (l:List Nat):Vs p W S n l=Vs p (W%p) (S%p) n l:=by
 unfold Vs
 exact List.map_congr_left fun j _=>ag6 p W S n l j
theorem alN (p W S n:Nat) (l:List Nat) (j:Nat) (hp:0<p):dv p W S n l j<p:=Nat.mod_lt _ hp
theorem ag7 (p W S n:Nat) (l:List Nat) (j:Nat):dx (p:Int) ((dv p W S n l j:Nat):Int) ((S:Int)*uX (W:Int) n (seq l) j):=by
 unfold dv uX seq
 refine (dx.jX _ _).trans (dx.of_eq ?_)
 rw [Int.natCast_mul,Vr]
 congr 1
theorem Fv.eq {f:Fd} {k W S:Nat} {l out:List Nat} (h:Fv f k W S l out) (hp:0<f.p):out=Vs f.p W S (2^k) l:=by
 refine kZ (by rw [h.len,adi]) fun j hj=>?_
 rw [h.len] at hj
 rw [ag5 _ _ _ _ _ _ hj]
 exact ((h.at_ j hj).trans (ag7 _ _ _ _ _ _).symm).eq (bK hp h.lt _) (alN _ _ _ _ _ _ hp)
theorem P5 (w:World) (v u:Value) (a b:List Nat) (h:U w v a) (g:U w u b) (hal:a.length≤1000000) (hbl:b.length≤1000000) (hs:min a.length b.length≤24) (cs:List Nat) (hc:EL a b=cs) :
  Calls Tryz.prog 44 #[v,u] w fun e w'=>∃ z,e = .returned z∧U3 w' z cs∧Ext w w' :=
 (PY w v u a b h g hal hbl hs).mono fun e w' ⟨⟨z,he,hz⟩,hB⟩=>⟨z,he,by rw [← hc];exact hz,hB⟩
theorem P6 (f:Fd) (k v:Nat) (h1:(f.p-1)/2^k<2^30) (h:pm f.p 30 f.root ((f.p-1)/2^k)=v):rt f k%f.p=v:=by
 unfold rt;rw [← pm_eq _ 30 _ _ h1];exact h
theorem XQ (f:Fd) (k r v:Nat) (hr:rt f k%f.p=r) (h1:f.p-2<2^30) (h:pm f.p 30 r (f.p-2)=v):bt f k%f.p=v:=by
 unfold bt;rw [← Fu,hr,← pm_eq _ 30 _ _ h1];exact h
theorem XR (f:Fd) (n v:Nat) (h1:f.p-2<2^30) (h:pm f.p 30 n (f.p-2)=v):sh f n%f.p=v:=by
 unfold sh;rw [← pm_eq _ 30 _ _ h1];exact h
theorem KW (p W S n:Nat) (l out:List Nat) (W' S':Nat) (hW:W%p=W') (hS:S%p=S') (h:Vs p W' S' n l=out):Vs p W S n l=out:=by
 rw [adj,hW,hS];exact h
theorem alO:rt (fd 0) 1%(fd 0).p=998244352:=P6 _ _ _ (by decide +kernel) (by decide +kernel)
theorem arP:rt (fd 2) 2%(fd 2).p=65249968:=P6 _ _ _ (by decide +kernel) (by decide +kernel)
theorem arQ:rt (fd 1) 0%(fd 1).p=1:=P6 _ _ _ (by decide +kernel) (by decide +kernel)
theorem hv1:Vs (fd 0).p (rt (fd 0) 1) 1 (2^1) [5,7]=[12,998244351]:=KW _ _ _ _ _ _ _ 1 alO (by decide +kernel) (by decide +kernel)
theorem hv2:Vs (fd 0).p (bt (fd 0) 1) (sh (fd 0) (2^1)) (2^1) [12,998244351]=[5,7] :=
 KW _ _ _ _ _ _ 998244352 499122177 (XQ _ _ _ _ alO (by decide +kernel) (by decide +kernel)) (XR _ _ _ (by decide +kernel) (by decide +kernel)) (by decide +kernel)
theorem hv3:Vs (fd 2).p (rt (fd 2) 2) 1 (2^2) [1,2,3,4]=[10,37272223,167772159,130499934]:=KW _ _ _ _ _ _ _ 1 arP (by decide +kernel) (by decide +kernel)
theorem hv4:Vs (fd 1).p (bt (fd 1) 0) (sh (fd 1) (2^0)) (2^0) [9]=[9] :=
 KW _ _ _ _ _ _ 1 1 (XQ _ _ _ _ arQ (by decide +kernel) (by decide +kernel)) (XR _ _ _ (by decide +kernel) (by decide +kernel)) (by decide +kernel)
theorem hv5:EL [4294967295] [4294967295]=[18446744065119617025]:=by decide +kernel
theorem hv6:EL [1,2] [3,4,5]=[3,10,13,10]:=by decide +kernel
end Go.Proofs.YtfhcmggpojhegaaGreatDoor
/- Limbs to the base 2^32 and the numbers that they are: plain lists and naturals. -/
namespace Go.Proofs.YtfhcmggpojhegaaGreatDoor
def val:List Nat→Nat
 | []=>0
 | x::xs=>x+4294967296*val xs
def limbs (n:Nat):List Nat:=if h:n=0 then [] else n%4294967296::limbs (n/4294967296)
termination_by n
decreasing_by exact Nat.div_lt_self (Nat.pos_of_ne_zero h) (by decide)
theorem bf:limbs 0=[]:=by rw [limbs];simp
theorem fH {n:Nat} (h:n≠0):limbs n=n%4294967296::limbs (n/4294967296):=by rw [limbs];simp [h]
theorem aO (n:Nat):val (limbs n)=n:=by
 induction n using Nat.strongRecOn with
 | _ n ih =>
  by_cases h:n=0
  · subst h;rw [bf];rfl
  · rw [fH h]
    have:=ih (n/4294967296) (Nat.div_lt_self (Nat.pos_of_ne_zero h) (by decide))
    simp only [val,this]
    omega
theorem jd (n:Nat):∀ x∈limbs n,x<4294967296:=by
 induction n using Nat.strongRecOn with
 | _ n ih =>
  by_cases h:n=0
  · subst h;rw [bf];simp
  · rw [fH h]
    intro x hx
    rcases List.mem_cons.1 hx with rfl | hx
    · omega
    · exact ih (n/4294967296) (Nat.div_lt_self (Nat.pos_of_ne_zero h) (by decide)) x hx
theorem val_append (xs ys:List Nat):val (xs++ys)=val xs+4294967296^xs.length*val ys:=by
 induction xs with
 | nil=>simp [val]
 | cons x xs ih =>
  simp only [List.cons_append,val,ih,List.length_cons,Nat.pow_succ]
  rw [Nat.mul_add,Nat.add_assoc]
  congr 2
  rw [← Nat.mul_assoc,Nat.mul_comm 4294967296]
theorem qa (xs:List Nat) (h:∀ x∈xs,x<4294967296):val xs<4294967296^xs.length:=by
 induction xs with
 | nil=>simp [val]
 | cons x xs ih =>
  have h1:=ih fun y hy=>h y (List.mem_cons_of_mem _ hy)
  have h2:=h x (List.mem_cons_self ..)
  simp only [val,List.length_cons,Nat.pow_succ]
  rw [Nat.mul_comm]
  have:val xs*4294967296+4294967296≤4294967296^xs.length*4294967296:=by
   have:=Nat.mul_le_mul_right 4294967296 (show val xs+1≤4294967296^xs.length from h1)
   rw [Nat.add_mul] at this
   omega
  omega
theorem gJ (k:Nat):val (List.replicate k 0)=0:=by
 induction k with
 | zero=>rfl
 | succ k ih=>simp [List.replicate_succ,val,ih]
theorem Kw (xs:List Nat) (h:∀ x∈xs,x<4294967296) (hl:xs≠[]→xs[xs.length-1]?.getD 0≠0):limbs (val xs)=xs:=by
 induction xs with
 | nil=>rw [val,bf]
 | cons x xs ih =>
  have h2:=h x (List.mem_cons_self ..)
  have ih':=ih (fun y hy=>h y (List.mem_cons_of_mem _ hy)) (fun hne=>by
   have:=hl (by simp)
   cases xs with
   | nil=>exact absurd rfl hne
   | cons y ys=>simpa using this)
  have hne:val (x::xs)≠0:=by
   cases xs with
   | nil=>have:=hl (by simp);simp [val] at this ⊢;exact this
   | cons y ys =>
    intro h0
    simp only [val] at h0
    have:val (y::ys)=0:=by simp only [val];omega
    rw [this,bf] at ih'
    cases ih'
  rw [fH hne]
  have e1:val (x::xs)%4294967296=x:=by simp only [val];omega
  have e2:val (x::xs)/4294967296=val xs:=by simp only [val];omega
  rw [e1,e2,ih']
theorem Su {n:Nat} (h:n≠0):(limbs n)[(limbs n).length-1]?.getD 0≠0:=by
 induction n using Nat.strongRecOn with
 | _ n ih =>
  rw [fH h]
  by_cases h2:n/4294967296=0
  · rw [h2,bf]
    simp;omega
  · have:=ih _ (Nat.div_lt_self (Nat.pos_of_ne_zero h) (by decide)) h2
    rw [fH h2] at this ⊢
    simpa using this
theorem oV {n:Nat}:limbs n=[]↔n=0:=by
 constructor
 · intro h
   have:=aO n
   rw [h] at this
   exact this.symm
 · rintro rfl;exact bf
theorem WV {n m:Nat} (h:limbs n=limbs m):n=m:=by rw [← aO n,h,aO]
theorem nO (n:Nat):n<4294967296^(limbs n).length:=by
 have:=qa (limbs n) (jd n)
 rwa [aO] at this
theorem Sv {n:Nat} (h:n≠0):4294967296^((limbs n).length-1)≤n:=by
 induction n using Nat.strongRecOn with
 | _ n ih =>
  rw [fH h]
  by_cases h2:n/4294967296=0
  · rw [h2,bf]
    simp;omega
  · have:=ih _ (Nat.div_lt_self (Nat.pos_of_ne_zero h) (by decide)) h2
    have hl:0<(limbs (n/4294967296)).length:=by
     rw [fH h2];simp
    simp only [List.length_cons,Nat.add_sub_cancel]
    obtain ⟨k,hk⟩:∃ k,(limbs (n/4294967296)).length=k+1:=⟨_,(Nat.succ_pred_eq_of_pos hl).symm⟩
    rw [hk] at this ⊢
    simp only [Nat.add_sub_cancel] at this
    rw [Nat.pow_succ]
    have:=Nat.mul_le_mul_right 4294967296 this
    omega
theorem fT {n k:Nat} (h:n<4294967296^k):(limbs n).length≤k:=by
 by_cases h0:n=0
 · subst h0;rw [bf];simp
 · have:=Sv h0
   have h1:4294967296^((limbs n).length-1)<4294967296^k:=Nat.lt_of_le_of_lt this h
   have:=(Nat.pow_lt_pow_iff_right (by decide:1<4294967296)).1 h1
   omega
theorem eZ {n m:Nat} (h:n≤m):(limbs n).length≤(limbs m).length :=
 fT (Nat.lt_of_le_of_lt h (nO m))
theorem O1 (xs:List Nat) (k:Nat) (h:∀ j,k≤j→j<xs.length→xs[j]?.getD 0=0):val (xs.take k)=val xs:=by
 have e:xs=xs.take k++xs.drop k:=(List.take_append_drop k xs).symm
 have hz:val (xs.drop k)=0:=by
  have:xs.drop k=List.replicate (xs.drop k).length 0:=by
   apply List.ext_getElem (by simp)
   intro i h1 h2
   have hi:k+i<xs.length:=by simp at h1;omega
   have:=h (k+i) (by omega) hi
   simp [List.getElem?_eq_getElem hi] at this
   simp [this]
  rw [this,gJ]
 conv=>rhs;rw [e,val_append,hz]
 simp
theorem Sy (xs:List Nat) (k:Nat) (hx:∀ x∈xs,x<4294967296) (hk:k≤xs.length) (h:∀ j,k≤j→j<xs.length→xs[j]?.getD 0=0)
  (hl:0<k→xs[k-1]?.getD 0≠0):limbs (val xs)=xs.take k:=by
 rw [← O1 xs k h]
 apply Kw
 · intro x hx';exact hx x (List.mem_of_mem_take hx')
 · intro hne
   have h0:0<k:=by
    rcases Nat.eq_zero_or_pos k with rfl | h0
    · simp at hne
    · exact h0
   have hlen:(xs.take k).length=k:=by simp;omega
   rw [hlen,List.getElem?_take,if_pos (by omega)]
   exact hl h0
theorem sV (xs:List Nat) (k:Nat) (hx:∀ x∈xs,x<4294967296) (hk:k≤xs.length) (h:∀ j,k≤j→j<xs.length→lb xs j=0)
 (hl:0<k→lb xs (k-1)≠0):limbs (val xs)=xs.take k:=Sy xs k hx hk h hl
theorem r9 (n j:Nat):lb (limbs n) j=n/4294967296^j%4294967296:=by
 unfold lb
 induction j generalizing n with
 | zero =>
  by_cases h:n=0
  · subst h;rw [bf];simp
  · rw [fH h];simp
 | succ j ih =>
  by_cases h:n=0
  · subst h;rw [bf];simp
  · rw [fH h,Nat.pow_succ',← Nat.div_div_eq_div_mul,← ih]
    simp
def dY (x y:Int):Int:=if x<y then -1 else if y<x then 1 else 0
end Go.Proofs.YtfhcmggpojhegaaGreatDoor
/- Shifts, limb by limb: plain lists and naturals. -/
namespace Go.Proofs.YtfhcmggpojhegaaGreatDoor
theorem tY (o:List Nat) (j x:Nat) (h:j<o.length):val (o.set j x)+lb o j*4294967296^j=val o+x*4294967296^j:=by
 induction o generalizing j with
 | nil=>simp at h
 | cons y ys ih =>
  cases j with
  | zero=>simp [val,lb];omega
  | succ j =>
   have:=ih j (by simpa using h)
   have e:lb (y::ys) (j+1)=lb ys j:=by simp [lb]
   rw [e]
   simp only [List.set_cons_succ,val,Nat.pow_succ]
   have h1:lb ys j*(4294967296^j*4294967296)=4294967296*(lb ys j*4294967296^j):=by rw [← Nat.mul_assoc,Nat.mul_comm]
   have h2:x*(4294967296^j*4294967296)=4294967296*(x*4294967296^j):=by rw [← Nat.mul_assoc,Nat.mul_comm]
   rw [h1,h2]
   omega
theorem jU (xs:List Nat) (i:Nat) (h:i<xs.length):val (xs.take (i+1))=val (xs.take i)+lb xs i*4294967296^i:=by
 rw [List.take_succ_eq_append_getElem h,val_append]
 have e:lb xs i=xs[i]:=by simp [lb,h]
 have hl:(xs.take i).length=i:=by simp;omega
 simp only [val,hl,e,Nat.mul_zero,Nat.add_zero]
 rw [Nat.mul_comm]
theorem DC (a b s:Nat) (ha:a<2^s):a|||b*2^s=a+b*2^s:=by
 have:=Nat.two_pow_add_eq_or_of_lt ha b
 rw [Nat.or_comm,Nat.mul_comm,← this,Nat.add_comm]
theorem E5 (x s:Nat) (hs:s≤32):x*2^s%4294967296=x%2^(32-s)*2^s:=by
 have e:4294967296=2^(32-s)*2^s:=by rw [← Nat.pow_add,Nat.sub_add_cancel hs]
 rw [e,Nat.mul_mod_mul_right]
theorem O7 (x s:Nat) (hs:s≤32):x/2^(32-s)=x*2^s/4294967296:=by
 have e:4294967296=2^(32-s)*2^s:=by rw [← Nat.pow_add,Nat.sub_add_cancel hs]
 rw [e,Nat.mul_div_mul_right _ _ (Nat.two_pow_pos s)]
structure uP (xs:List Nat) (q s L i:Nat) (o:List Nat):Prop where
 len:o.length=L
 lt:∀ x∈o,x<4294967296
 val_eq:val o=val (xs.take i)*(4294967296^q*2^s)
 low:lb o (q+i)<2^s
 rest:∀ j,q+i<j→lb o j=0
theorem uP.start (xs:List Nat) (q s L:Nat):uP xs q s L 0 (List.replicate L 0) :=
 ⟨by simp,fun x hx=>by rw [List.eq_of_mem_replicate hx];decide,by simp [val,gJ],by rw [ig];exact Nat.two_pow_pos s,fun j _=>ig L j⟩
def U4 (o:List Nat) (x q s i:Nat):List Nat:=(o.set (q+i) (lb o (q+i)|||x*2^s%4294967296)).set (q+i+1) (x/2^(32-s))
theorem uP.step {xs:List Nat} {q s L i:Nat} {o:List Nat} (h:uP xs q s L i o) (hs:s<32) (hx:∀ x∈xs,x<4294967296) (hi:i<xs.length) (hL:L=q+xs.length+1) :
  uP xs q s L (i+1) (U4 o (lb xs i) q s i):=by
 have hxi:=eU hx i
 have ho:lb o (q+i)|||lb xs i*2^s%4294967296=lb o (q+i)+lb xs i*2^s%4294967296:=by
  rw [E5 _ _ (by omega)];exact DC _ _ _ h.low
 have hb:lb o (q+i)+lb xs i*2^s%4294967296<4294967296:=by
  have h1:=E5 (lb xs i) s (by omega)
  have h2:lb xs i%2^(32-s)+1≤2^(32-s):=Nat.mod_lt _ (Nat.two_pow_pos _)
  have h3:=Nat.mul_le_mul_right (2^s) h2
  rw [← Nat.pow_add,Nat.sub_add_cancel (by omega),Nat.add_mul] at h3
  have:=h.low
  rw [h1]
  omega
 have hhi:lb xs i/2^(32-s)=lb xs i*2^s/4294967296:=O7 _ _ (by omega)
 have hlow:lb xs i*2^s/4294967296<2^s:=by
  rw [Nat.div_lt_iff_lt_mul (by decide),Nat.mul_comm (2^s)]
  exact Nat.mul_lt_mul_of_pos_right hxi (Nat.two_pow_pos s)
 have ard:2^s≤4294967296:=by
  have:=Nat.pow_le_pow_right (show 0<2 by decide) (show s≤32 by omega)
  simpa using this
 have e1:=tY o (q+i) (lb o (q+i)+lb xs i*2^s%4294967296) (by rw [h.len];omega)
 have e2:=tY (o.set (q+i) (lb o (q+i)+lb xs i*2^s%4294967296)) (q+i+1) (lb xs i*2^s/4294967296) (by simp [h.len];omega)
 rw [dR _ (by omega),h.rest (q+i+1) (by omega),Nat.zero_mul,Nat.add_zero] at e2
 unfold U4
 rw [ho,hhi]
 refine ⟨by simp [h.len],fO (fO h.lt hb) (by omega),?_,?_,?_⟩
 · rw [e2,jU xs i hi,Nat.add_mul,← h.val_eq]
   have e3:lb xs i*4294967296^i*(4294967296^q*2^s)=(lb xs i*2^s)*4294967296^(q+i):=by
    rw [Nat.pow_add];simp only [Nat.mul_assoc,Nat.mul_left_comm,Nat.mul_comm]
   rw [e3]
   have e4:lb xs i*2^s=lb xs i*2^s%4294967296+lb xs i*2^s/4294967296*4294967296:=by omega
   have e5:lb xs i*2^s/4294967296*4294967296^(q+i+1)=(lb xs i*2^s/4294967296*4294967296)*4294967296^(q+i):=by
    rw [Nat.pow_succ];simp only [Nat.mul_assoc,Nat.mul_left_comm,Nat.mul_comm]
   rw [e5]
   conv=>rhs;rw [e4]
   rw [Nat.add_mul] at e1 ⊢
   omega
 · rw [show q+(i+1)=q+i+1 by omega,mI _ (by simp [h.len];omega)];exact hlow
 · intro j hj
   rw [dR _ (by omega),dR _ (by omega)]
   exact h.rest j (by omega)
theorem Ej (q:Nat):4294967296^q=2^(32*q):=by rw [Nat.pow_mul]
theorem uP.done {xs:List Nat} {k L:Nat} {o:List Nat} (h:uP xs (k/32) (k%32) L xs.length o):val o=val xs*2^k:=by
 rw [h.val_eq,List.take_length,Ej,← Nat.pow_add,Nat.div_add_mod]
theorem MR (xs:List Nat) (q:Nat) (hx:∀ x∈xs,x<4294967296):val (xs.drop q)=val xs/4294967296^q:=by
 by_cases hq:q≤xs.length
 · have e:val xs=val (xs.take q)+4294967296^q*val (xs.drop q):=by
    have h:=val_append (xs.take q) (xs.drop q)
    rw [List.take_append_drop,List.length_take,Nat.min_eq_left hq] at h
    exact h
   have hlt:=qa (xs.take q) (fun x hx'=>hx x (List.mem_of_mem_take hx'))
   rw [List.length_take,Nat.min_eq_left hq] at hlt
   rw [e,Nat.add_mul_div_left _ _ (Nat.pow_pos (by decide)),Nat.div_eq_of_lt hlt,Nat.zero_add]
 · rw [List.drop_eq_nil_of_le (by omega)]
   have:=qa xs hx
   have h2:4294967296^xs.length≤4294967296^q:=Nat.pow_le_pow_right (by decide) (by omega)
   rw [Nat.div_eq_of_lt (by omega)]
   rfl
structure oK (ys:List Nat) (s L i:Nat) (o:List Nat):Prop where
 len:o.length=L
 lt:∀ x∈o,x<4294967296
 val_eq:val o=val (ys.take i)/2^s
 low:0<i→lb o (i-1)<2^(32-s)
 rest:∀ j,i≤j→lb o j=0
theorem oK.start (ys:List Nat) (s L:Nat):oK ys s L 0 (List.replicate L 0) :=
 ⟨by simp,fun x hx=>by rw [List.eq_of_mem_replicate hx];decide,by simp [val,gJ],fun h=>absurd h (by omega),fun j _=>ig L j⟩
def O8 (o:List Nat) (x s i:Nat):List Nat:=o.set i (x/2^s)
def U5 (o:List Nat) (x s i:Nat):List Nat:=(o.set i (x/2^s)).set (i-1) (lb o (i-1)|||x*2^(32-s)%4294967296)
theorem U6 (x s:Nat) (hx:x<4294967296) (hs:s≤32):x/2^s<2^(32-s):=by
 rw [Nat.div_lt_iff_lt_mul (Nat.two_pow_pos s),← Nat.pow_add,Nat.sub_add_cancel hs]
 exact hx
theorem oK.step0 {ys:List Nat} {s L:Nat} {o:List Nat} (h:oK ys s L 0 o) (hs:s<32) (hx:∀ x∈ys,x<4294967296) (hi:0<ys.length) (hL:L=ys.length) :
  oK ys s L 1 (O8 o (lb ys 0) s 0):=by
 have hxi:=eU hx 0
 have hle:lb ys 0/2^s≤lb ys 0:=Nat.div_le_self _ _
 have e1:=tY o 0 (lb ys 0/2^s) (by rw [h.len];omega)
 rw [h.rest 0 (Nat.le_refl _),h.val_eq] at e1
 unfold O8
 refine ⟨by simp [h.len],fO h.lt (by omega),?_,fun _=>?_,fun j hj=>?_⟩
 · have:=jU ys 0 hi
   simp only [List.take_zero,val,Nat.zero_div,Nat.zero_add,Nat.pow_zero,Nat.mul_one] at e1 this
   rw [this];omega
 · rw [mI _ (by rw [h.len];omega)];exact U6 _ _ hxi (by omega)
 · rw [dR _ (by omega)];exact h.rest j (by omega)
theorem oK.step {ys:List Nat} {s L i:Nat} {o:List Nat} (h:oK ys s L i o) (h0:0<i) (hs:s<32) (hx:∀ x∈ys,x<4294967296) (hi:i<ys.length) (hL:L=ys.length) :
  oK ys s L (i+1) (U5 o (lb ys i) s i):=by
 obtain ⟨i,rfl⟩:∃ j,i=j+1:=⟨i-1,by omega⟩
 have hxi:=eU hx (i+1)
 have hle:lb ys (i+1)/2^s≤lb ys (i+1):=Nat.div_le_self _ _
 have hlow:=h.low h0
 rw [Nat.add_sub_cancel] at hlow
 have ho:lb o i|||lb ys (i+1)*2^(32-s)%4294967296=lb o i+lb ys (i+1)*2^(32-s)%4294967296:=by
  rw [E5 _ _ (by omega)];exact DC _ _ _ hlow
 have hb:lb o i+lb ys (i+1)*2^(32-s)%4294967296<4294967296:=by
  have h1:=E5 (lb ys (i+1)) (32-s) (by omega)
  have h2:lb ys (i+1)%2^(32-(32-s))+1≤2^(32-(32-s)):=Nat.mod_lt _ (Nat.two_pow_pos _)
  have h3:=Nat.mul_le_mul_right (2^(32-s)) h2
  rw [← Nat.pow_add,Nat.sub_add_cancel (by omega),Nat.add_mul] at h3
  rw [h1]
  omega
 have e1:=tY o (i+1) (lb ys (i+1)/2^s) (by rw [h.len];omega)
 rw [h.rest (i+1) (Nat.le_refl _),Nat.zero_mul,Nat.add_zero] at e1
 have e2:=tY (o.set (i+1) (lb ys (i+1)/2^s)) i (lb o i+lb ys (i+1)*2^(32-s)%4294967296) (by simp [h.len];omega)
 rw [dR _ (by omega)] at e2
 unfold U5
 rw [Nat.add_sub_cancel,ho]
 refine ⟨by simp [h.len],fO (fO h.lt (by omega)) hb,?_,fun _=>?_,fun j hj=>?_⟩
 · have e3:=jU ys (i+1) hi
   have e4:lb ys (i+1)*4294967296^(i+1)=lb ys (i+1)*2^(32-s)*4294967296^i*2^s:=by
    have:(4294967296:Nat)=2^(32-s)*2^s:=by rw [← Nat.pow_add,Nat.sub_add_cancel (by omega)]
    rw [Nat.pow_succ]
    conv=>lhs;rw [show (4294967296:Nat)^i*4294967296=4294967296^i*(2^(32-s)*2^s) by rw [← this]]
    simp only [Nat.mul_assoc,Nat.mul_left_comm,Nat.mul_comm]
   rw [e3,e4,Nat.add_mul_div_right _ _ (Nat.two_pow_pos s),← h.val_eq]
   have e5:lb ys (i+1)/2^s=lb ys (i+1)*2^(32-s)/4294967296:=by
    have:=O7 (lb ys (i+1)) (32-s) (by omega)
    rwa [show 32-(32-s)=s by omega] at this
   have e6:lb ys (i+1)/2^s*4294967296^(i+1)=(lb ys (i+1)/2^s*4294967296)*4294967296^i:=by
    rw [Nat.pow_succ];simp only [Nat.mul_assoc,Nat.mul_left_comm,Nat.mul_comm]
   have e7:lb ys (i+1)*2^(32-s)=lb ys (i+1)*2^(32-s)%4294967296+lb ys (i+1)/2^s*4294967296:=by rw [e5];omega
   rw [e6] at e1
   rw [Nat.add_mul] at e2
   have e8:lb ys (i+1)*2^(32-s)*4294967296^i=lb ys (i+1)*2^(32-s)%4294967296*4294967296^i+lb ys (i+1)/2^s*4294967296*4294967296^i:=by
    rw [← Nat.add_mul,← e7]
   omega
 · rw [Nat.add_sub_cancel,dR _ (by omega),mI _ (by rw [h.len];omega)];exact U6 _ _ hxi (by omega)
 · rw [dR _ (by omega),dR _ (by omega)];exact h.rest j (by omega)
theorem oK.done {xs:List Nat} {k L i:Nat} {o:List Nat} (hx:∀ x∈xs,x<4294967296) (h:oK (xs.drop (k/32)) (k%32) L i o) (hi:i=(xs.drop (k/32)).length):val o=val xs/2^k:=by
 subst hi
 rw [h.val_eq,List.take_length,MR _ _ hx,Ej,Nat.div_div_eq_div_mul,← Nat.pow_add,Nat.div_add_mod]
theorem FV (n:Nat) (h:n≠0):aU n=32*((limbs n).length-1)+aU (lb (limbs n) ((limbs n).length-1)):=by
 have hl:=Su h
 have e:lb (limbs n) ((limbs n).length-1)=n/2^(32*((limbs n).length-1)):=by
  rw [r9,← Ej]
  apply Nat.mod_eq_of_lt
  have:=nO n
  have hp:0<(limbs n).length:=by rw [fH h];simp
  rw [Nat.div_lt_iff_lt_mul (Nat.pow_pos (by decide)),← Nat.pow_succ',show ((limbs n).length-1).succ=(limbs n).length by omega]
  exact this
 rw [e]
 apply kG
 rw [← e]
 exact hl
def En (n:Nat):Nat:=if n<18446744073709551616 then n else 0
def xS (n:Nat):Bool:=decide (n<18446744073709551616)
theorem dX {n k:Nat} (h:(limbs n).length≤k):n<4294967296^k :=
 Nat.lt_of_lt_of_le (nO n) (Nat.pow_le_pow_right (by decide) h)
theorem oU {n k:Nat} (h:k<(limbs n).length):4294967296^k≤n:=by
 rcases Nat.lt_or_ge n (4294967296^k) with h1 | h1
 · have:=fT h1;omega
 · exact h1
theorem SA {n:Nat} (h:(limbs n).length≤2):xS n=true:=by
 have:=dX h
 exact decide_eq_true (by omega)
theorem SB {n:Nat} (h:(limbs n).length≤2):En n=n:=by
 have:=dX h
 exact if_pos (by omega)
theorem SC {n:Nat} (h:2<(limbs n).length):xS n=false:=by
 have:=oU h
 exact decide_eq_false (by omega)
theorem SE {n:Nat} (h:2<(limbs n).length):En n=0:=by
 have:=oU h
 exact if_neg (by omega)
theorem ae8 {xs:List Nat} (q:Nat) (hx:∀ x∈xs,x<4294967296):∀ x∈xs.drop q,x<4294967296:=fun x h=>hx x (List.mem_of_mem_drop h)
end Go.Proofs.YtfhcmggpojhegaaGreatDoor
/- Order of limbs: plain lists and naturals. -/
namespace Go.Proofs.YtfhcmggpojhegaaGreatDoor
def tQ (L k:Nat):List Nat:=(List.range k).map fun j=>L-1-j
theorem zD (L k:Nat):tQ L (k+1)=tQ L k++[L-1-k]:=by simp [tQ,List.range_succ]
theorem Mm (L k:Nat):(tQ L k).length=k:=by simp [tQ]
theorem Ky {L k j:Nat} (hk:k≤L):j∈tQ L k↔L-k≤j∧j<L:=by
 simp only [tQ,List.mem_map,List.mem_range]
 constructor
 · rintro ⟨i,hi,rfl⟩;omega
 · intro h;exact ⟨L-1-j,by omega,by omega⟩
theorem rP {xs ys:List Nat} (hl:xs.length=ys.length) (hx:∀ x∈xs,x<4294967296) (hy:∀ x∈ys,x<4294967296) (p:Nat) (hp:p<xs.length)
  (ht:∀ j,p<j→j<xs.length→lb xs j=lb ys j) (hlt:lb xs p<lb ys p):val xs<val ys:=by
 induction xs generalizing ys p with
 | nil=>simp at hp
 | cons x xs ih =>
  cases ys with
  | nil=>simp at hl
  | cons y ys =>
   have e:∀ (a:Nat) (l:List Nat) j,lb (a::l) (j+1)=lb l j:=fun a l j=>by simp [lb]
   have hl':xs.length=ys.length:=by simpa using hl
   have h1:=hx x (List.mem_cons_self ..)
   have h2:=hy y (List.mem_cons_self ..)
   simp only [val]
   cases p with
   | zero =>
    have:xs=ys:=kZ hl' fun j hj=>by
     have:=ht (j+1) (by omega) (by simpa using hj)
     rwa [e,e] at this
    subst this
    have h3:lb (x::xs) 0=x:=by simp [lb]
    have h4:lb (y::xs) 0=y:=by simp [lb]
    omega
   | succ p =>
    rw [e,e] at hlt
    have:=ih hl' (fun z hz=>hx z (List.mem_cons_of_mem _ hz)) (fun z hz=>hy z (List.mem_cons_of_mem _ hz)) p (by simpa using hp)
     (fun j h3 h4=>by
      have:=ht (j+1) (by omega) (by simpa using h4)
      rwa [e,e] at this) hlt
    omega
theorem kU {x y:Int} (h:x<y):dY x y = -1:=if_pos h
theorem lW {x y:Int} (h:y<x):dY x y=1:=by rw [dY,if_neg (by omega),if_pos h]
theorem oW (x:Int):dY x x=0:=by rw [dY,if_neg (by omega),if_neg (by omega)]
theorem BR {n m:Nat} (h:(limbs n).length<(limbs m).length):n<m:=by
 have h1:=nO n
 have h2:=oU h
 omega
theorem ace {n m:Nat} (h:(limbs n).length≠(limbs m).length):dY (limbs n).length (limbs m).length=dY n m:=by
 rcases Nat.lt_or_gt_of_ne h with h | h
 · have:=BR h
   rw [kU (by omega),kU (by omega)]
 · have:=BR h
   rw [lW (by omega),lW (by omega)]
theorem acf {n m p:Nat} (hl:(limbs n).length=(limbs m).length) (hp:p<(limbs n).length) (ht:∀ j,p<j→j<(limbs n).length→lb (limbs n) j=lb (limbs m) j)
  (hne:lb (limbs n) p≠lb (limbs m) p):dY (lb (limbs n) p) (lb (limbs m) p)=dY n m:=by
 rcases Nat.lt_or_gt_of_ne hne with h | h
 · have:=rP hl (jd n) (jd m) p hp ht h
   rw [aO,aO] at this
   rw [kU (by omega),kU (by omega)]
 · have:=rP hl.symm (jd m) (jd n) p (by omega) (fun j h1 h2=>(ht j h1 (by omega)).symm) h
   rw [aO,aO] at this
   rw [lW (by omega),lW (by omega)]
end Go.Proofs.YtfhcmggpojhegaaGreatDoor
/- Words to the base 2^64 and the numbers that they are: plain lists and naturals. -/
namespace Go.Proofs.YtfhcmggpojhegaaGreatDoor
set_option linter.unusedVariables false
def aV:List Nat→Nat
 | []=>0
 | x::xs=>x+18446744073709551616*aV xs
def BB:Nat:=18446744073709551616
theorem jL (xs ys:List Nat):aV (xs++ys)=aV xs+BB^xs.length*aV ys:=by
 induction xs with
 | nil=>simp [aV]
 | cons x xs ih =>
  simp only [List.cons_append,aV,ih,List.length_cons,Nat.pow_succ]
  rw [Nat.mul_add,Nat.add_assoc]
  congr 2
  rw [← Nat.mul_assoc,Nat.mul_comm 18446744073709551616]
  rfl
theorem yG (xs:List Nat) (h:∀ x∈xs,x<18446744073709551616):aV xs<BB^xs.length:=by
 induction xs with
 | nil=>simp [aV]
 | cons x xs ih =>
  have h1:=ih fun y hy=>h y (List.mem_cons_of_mem _ hy)
  have h2:=h x (List.mem_cons_self ..)
  simp only [aV,List.length_cons,Nat.pow_succ]
  have:aV xs*18446744073709551616+18446744073709551616≤BB^xs.length*BB:=by
   have:=Nat.mul_le_mul_right 18446744073709551616 (show aV xs+1≤BB^xs.length from h1)
   rw [Nat.add_mul] at this
   show _≤BB^xs.length*18446744073709551616
   omega
  omega
theorem kS (n:Nat):aV (List.replicate n 0)=0:=by
 induction n with
 | zero=>rfl
 | succ n ih=>rw [List.replicate_succ,aV,ih]
theorem oQ (o:List Nat) (i x:Nat) (h:i<o.length):aV (o.set i x)+BB^i*lb o i=aV o+BB^i*x:=by
 induction o generalizing i with
 | nil=>simp at h
 | cons y ys ih =>
  cases i with
  | zero =>
   simp only [List.set_cons_zero,aV,Nat.pow_zero,Nat.one_mul]
   have:lb (y::ys) 0=y:=rfl
   omega
  | succ i =>
   have:=ih i (by simpa using h)
   simp only [List.set_cons_succ,aV]
   have e:lb (y::ys) (i+1)=lb ys i:=by simp [lb]
   rw [e,Nat.pow_succ,Nat.mul_comm (BB^i) BB]
   have h2:BB*(aV (ys.set i x)+BB^i*lb ys i)=BB*(aV ys+BB^i*x):=by rw [this]
   rw [Nat.mul_add,Nat.mul_add,← Nat.mul_assoc,← Nat.mul_assoc] at h2
   show y+BB*_+_=y+BB*_+_
   omega
theorem gM (xs:List Nat) (k:Nat) (h:k<xs.length):aV (xs.take (k+1))=aV (xs.take k)+BB^k*lb xs k:=by
 have e:xs.take (k+1)=xs.take k++[lb xs k]:=by
  rw [List.take_add_one,List.getElem?_eq_getElem h]
  unfold lb
  rw [List.getElem?_eq_getElem h];rfl
 rw [e,jL,List.length_take,Nat.min_eq_left (by omega)]
 simp [aV]
theorem nX (xs:List Nat) (k:Nat) (h:k≤xs.length):aV xs=aV (xs.take k)+BB^k*aV (xs.drop k):=by
 conv=>lhs;rw [← List.take_append_drop k xs]
 rw [jL,List.length_take,Nat.min_eq_left h]
def iH:List Nat→List Nat
 | []=>[]
 | [x]=>[x]
 | x::y::r=>(x+4294967296*y)::iH r
theorem jw:∀ xs:List Nat,(iH xs).length=(xs.length+1)/2
 | []=>rfl
 | [x]=>by simp [iH]
 | x::y::r=>by rw [iH,List.length_cons,jw r];simp only [List.length_cons];omega
theorem kT:∀ xs:List Nat,aV (iH xs)=val xs
 | []=>rfl
 | [x]=>rfl
 | x::y::r=>by rw [iH,aV,kT r];simp only [val];omega
theorem zM:∀ (xs:List Nat) (i:Nat),lb (iH xs) i=lb xs (2*i)+4294967296*lb xs (2*i+1)
 | [],i=>by simp [iH,lb]
 | [x],i=>by
  cases i with
  | zero=>simp [iH,lb]
  | succ i=>rw [show 2*(i+1)=(2*i+1)+1 by omega];simp [iH,lb]
 | x::y::r,i=>by
  cases i with
  | zero=>simp [iH,lb]
  | succ i =>
   have:=zM r i
   have e1:lb (iH (x::y::r)) (i+1)=lb (iH r) i:=by simp [iH,lb]
   have e2:lb (x::y::r) (2*(i+1))=lb r (2*i):=by rw [show 2*(i+1)=2*i+1+1 by omega];simp [lb]
   have e3:lb (x::y::r) (2*(i+1)+1)=lb r (2*i+1):=by rw [show 2*(i+1)+1=2*i+1+1+1 by omega];simp [lb]
   rw [e1,e2,e3,this]
theorem oq (xs:List Nat) (h:∀ x∈xs,x<4294967296):∀ x∈iH xs,x<18446744073709551616:=by
 refine Vz fun j hj=>?_
 rw [zM]
 have h1:=eU h (2*j)
 have h2:=eU h (2*j+1)
 omega
def fE:List Nat→List Nat
 | []=>[]
 | x::r=>x%4294967296::x/4294967296::fE r
theorem DF (ws:List Nat):(fE ws).length=2*ws.length:=by
 induction ws with
 | nil=>rfl
 | cons x r ih=>simp only [fE,List.length_cons,ih];omega
theorem DI (ws:List Nat):val (fE ws)=aV ws:=by
 induction ws with
 | nil=>rfl
 | cons x r ih=>simp only [fE,val,aV,ih];omega
theorem Fa (ws:List Nat) (h:∀ x∈ws,x<18446744073709551616):∀ x∈fE ws,x<4294967296:=by
 induction ws with
 | nil=>intro x hx;simp [fE] at hx
 | cons y r ih =>
  intro x hx
  have h0:=h y (List.mem_cons_self ..)
  simp only [fE,List.mem_cons] at hx
  rcases hx with rfl | rfl | hx
  · omega
  · omega
  · exact ih (fun z hz=>h z (List.mem_cons_of_mem _ hz)) x hx
theorem RP (ws:List Nat) (i:Nat):lb (fE ws) (2*i)=lb ws i%4294967296∧lb (fE ws) (2*i+1)=lb ws i/4294967296:=by
 induction ws generalizing i with
 | nil=>simp [fE,lb]
 | cons x r ih =>
  cases i with
  | zero=>simp [fE,lb]
  | succ i =>
   have:=ih i
   have e1:lb (fE (x::r)) (2*(i+1))=lb (fE r) (2*i):=by rw [show 2*(i+1)=2*i+1+1 by omega];simp [fE,lb]
   have e2:lb (fE (x::r)) (2*(i+1)+1)=lb (fE r) (2*i+1):=by rw [show 2*(i+1)+1=2*i+1+1+1 by omega];simp [fE,lb]
   have e3:lb (x::r) (i+1)=lb r i:=by simp [lb]
   rw [e1,e2,e3];exact this
theorem Kt (P S S' x y c d A v:Nat) (hset:S'+P*x=S+P*v) (hinv:S+P*c=A) (hd:x+y+c=v+BB*d):S'+P*BB*d=A+P*y:=by
 have h1:P*(x+y+c)=P*(v+BB*d):=by rw [hd]
 rw [Nat.mul_add,Nat.mul_add,Nat.mul_add,← Nat.mul_assoc] at h1
 omega
theorem Jr (P S S' x y c d A T v:Nat) (hset:S'+P*x=S+P*v) (hinv:S+T=A+P*c) (hd:x+BB*d=v+y+c):S'+(T+P*y)=A+P*BB*d:=by
 have h1:P*(x+BB*d)=P*(v+y+c):=by rw [hd]
 rw [Nat.mul_add,Nat.mul_add,Nat.mul_add,← Nat.mul_assoc] at h1
 omega
end Go.Proofs.YtfhcmggpojhegaaGreatDoor
