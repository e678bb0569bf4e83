/- GcdFermat, and what it leans on beyond the base. -/
import Derived.Test.YtnilonnkcbkdmaaGreatDoorBac
import Derived.Test.YtnilonnkcbkdmaaGreatDoorBad
import Derived.Test.YtnilonnkcbkdmaaGreatDoorBai
import Derived.Test.YtnilonnkcbkdmaaGreatDoorBag
import Derived.Test.YtnilonnkcbkdmaaGreatDoorBah
import Derived.Test.YtnilonnkcbkdmaaGreatDoorBak
import Derived.Test.YtnilonnkcbkdmaaGreatDoorBao
import Derived.Test.YtnilonnkcbkdmaaGreatDoorBae
import Derived.Test.YtnilonnkcbkdmaaGreatDoorBap
import Derived.Test.YtnilonnkcbkdmaaGreatDoorBar
import Derived.Test.YtnilonnkcbkdmaaGreatDoorBas
import Derived.Test.YtnilonnkcbkdmaaGreatDoorBat
import Derived.Test.YtnilonnkcbkdmaaGreatDoorBab
import Derived.Test.YtnilonnkcbkdmaaGreatDoorBbh
import Derived.Test.YtnilonnkcbkdmaaGreatDoorBbc
import Derived.Test.YtnilonnkcbkdmaaGreatDoorBbe
import Derived.Test.YtnilonnkcbkdmaaGreatDoorBbk
import Derived.SevenTiedAt
import Derived.LaidMore
import Derived.Stop.Joined
import Derived.JoinedOf
import Derived.JoinedAt
import Derived.Lib.SmallJoins
import Derived.Laws.IdiomArrays
import Derived.WideKeyPair
import Derived.WideKeyArr2
import Derived.Deep.WholeRow
import Derived.Deep.MidRow
import Derived.Laws.CopyOwn

namespace Go.Proofs.YtnilonnkcbkdmaaGreatDoor
open Go.RowKit
set_option linter.unusedVariables false
set_option maxHeartbeats 400000
theorem kW {n k:Nat} (h1:2^k≤n) (h2:n<2^(k+1)):bS n=k+1:=by
 have:=gU h1
 have:=dB h2
 omega
end Go.Proofs.YtnilonnkcbkdmaaGreatDoor
namespace Go.Proofs.YtnilonnkcbkdmaaGreatDoor
open Go.RowKit
set_option linter.unusedVariables false
theorem Fa.share {f:Fd} (F:Fa f) (k:Nat):gJ (f.p:Int) (((2^k:Nat):Int)*((sh f (2^k):Nat):Int)) 1:=by
 have h2:gJ (f.p:Int) ((2:Int)^(f.p-1)) 1:=by
  have p0:=F.good.p0
  have h:gJ (f.p:Int) ((2^(f.p-1):Nat):Int) ((1:Nat):Int):=rT (by rw [F.two,Nat.mod_eq_of_lt p0])
  rwa [Int.natCast_pow] at h
 refine inv_of F ?_
 rw [Int.natCast_pow,← Int.pow_mul,Nat.mul_comm,Int.pow_mul]
 have:=h2.pow k
 rwa [Int.one_pow] at this
end Go.Proofs.YtnilonnkcbkdmaaGreatDoor
namespace Go.Proofs.YtnilonnkcbkdmaaGreatDoor
open Go.RowKit
set_option linter.unusedVariables false
set_option maxHeartbeats 400000
set_option maxRecDepth 100000
theorem gp (w:World) (v:Value) (xs:List Nat) (k:Int) (hk0:0≤k) (hk1:k≤1000000000) (h:U w v xs) :
  Calls Tryz.prog 13 #[v,.int .i64 k] w fun e w'=>(∃ u,e = .returned u∧Un w' u (dG xs k.toNat))∧Below w.heap.size w w':=by
 have h':=h
 obtain ⟨A,c,rfl,⟨hc,hm⟩,hx,hr⟩:=h
 clear hr
 by_cases hl:(xs.length:Int)≤k
 · have hu:=aW w _ xs h' (by omega)
   have HT:Hid (xs.take k.toNat=xs):=List.take_of_length_le (by omega)
   have hmin:min (xs.length:Int) k=xs.length:=by omega
   go_enter Tryz.func13,Tryz.ntmps13
   go_wp2_with (go_at_call 37;refine hu.mono ?_;rintro e w' ⟨⟨z,rfl,hz⟩,hB⟩)
   go_ret
   exact ⟨⟨_,rfl,by rw [Un,dG,HT.out];exact hz⟩,hB⟩
 · obtain ⟨k,rfl⟩:=Int.eq_ofNat_of_zero_le hk0
   have hu:=aW w _ _ (h'.take (k:=k) (c':=c) (by omega) (by omega)) (by rw [List.length_take];omega)
   have hmin:min (xs.length:Int) (k:Int)=k:=by omega
   go_enter Tryz.func13,Tryz.ntmps13
   go_wp2_with (go_at_call 37;refine hu.mono ?_;rintro e w' ⟨⟨z,rfl,hz⟩,hB⟩)
   go_ret
   exact ⟨⟨_,rfl,by rw [Un,dG,Int.toNat_natCast];exact hz⟩,hB⟩
end Go.Proofs.YtnilonnkcbkdmaaGreatDoor
namespace Go.Proofs.YtnilonnkcbkdmaaGreatDoor
open Go.RowKit
set_option linter.unusedVariables false
theorem dR (w:World) (v:Value) (xs:List Nat) (k:Int) (h:U w v xs) (hk0:0≤k) (hk1:k≤1000000000) (n:Nat) (hn:dG xs k.toNat=n) :
  Calls Tryz.prog 13 #[v,.int .i64 k] w fun e w'=>∃ u,e = .returned u∧Un w' u n∧Ext w w':=by
 subst hn
 exact (gp w v xs k hk0 hk1 h).mono fun e w' ⟨⟨u,he,hu⟩,hb⟩=>⟨u,he,hu,hb⟩
end Go.Proofs.YtnilonnkcbkdmaaGreatDoor
namespace Go.Proofs.YtnilonnkcbkdmaaGreatDoor
open Go.ChangeShapes Go.WideShapes Go.ChangeAt Go.RowKit
set_option linter.unusedVariables false
set_option maxRecDepth 100000
theorem laidOut:laidOutB Tryz.prog=true:=by kernel_rfl
theorem jK:Tryz.prog.cellsOf 43 = 1:=by kernel_rfl
abbrev gQ:List (String × DataW Unit):=[("ziggurat/ntt.fields",Rows.laid_ziggurat_ntt_fields)]
theorem jf (os:Os) (args:Array Value):laidMetH Tryz.prog gQ ((World.doorLaid Tryz.prog 400 os).forCall (fun _ _=>0) ⟨#[],args,[]⟩).memory :=
 laidMetH_of_parts3 (fuel:=8) (laidMet_of_run' 8 (by kernel_rfl) (by kernel_rfl)) (by kernel_rfl) (by kernel_rfl)
theorem bP {H:Type} {enc:TypeId × Value→H} {W W':World} {sp:Nat→Bool} (hB:Ext W W'):∀ {ts:List TypeId} {vs:List Value} {ds:List (DataW H)} {ps:List MemPlace},
  (∀ t∈ts,Tryz.prog.readableRec t=true∧t<Tryz.prog.types.size)→DataW.TrodAll enc Tryz.prog W 0 (fun _=>true) true ts vs ds ps→(∀ p∈ps,p.block<W.heap.size)→(∀ p∈ps,sp p.block=true)→DataW.TrodAll enc Tryz.prog W' 0 sp true ts vs ds ps
 | [],[],[],_,_,h,_,_=>h
 | t::_,_::_,_::_,_,hT,⟨p,q,h1,h2,e⟩,hlt,hs=>⟨p,q,
  WideElems.Trod_stays laidOut (hT t (List.mem_cons_self ..)).1 (hT t (List.mem_cons_self ..)).2 h1 (fun x hx=>Below.same hB (hlt x (by rw [e];exact List.mem_append_left _ hx))) (fun x hx=>hs x (by rw [e];exact List.mem_append_left _ hx)),
  bP hB (fun t ht=>hT t (List.mem_cons_of_mem _ ht)) h2 (fun x hx=>hlt x (by rw [e];exact List.mem_append_right _ hx)) (fun x hx=>hs x (by rw [e];exact List.mem_append_right _ hx)),e⟩
theorem jg {H:Type} {enc:TypeId × Value→H} {f:Func} {s:ChangeSpec} {apart fresh handsOn again:Bool} {W W':World} {args:Array Value} {ds gs:List (DataW H)} {before:List MemPlace}
  (hW:DataW.Whole enc Tryz.prog f.params.toList s.vars apart W args.toList ds gs before) (hv:s.vars=[]) (hT:∀ t∈f.params.toList,Tryz.prog.readableRec t=true∧t<Tryz.prog.types.size)
  (hres:f.resultTypes=#[4]) (hfn:(s.fn H (ds++gs)).results=[.lit (.bool true)]) (hfa:(s.fn H (ds++gs)).args=ds) (P8:(s.fn H (ds++gs)).vars=[]) (hB:Ext W W') :
  s.post enc Tryz.prog f apart fresh handsOn again W args (.bool true) W':=by
 have hlt:∀ p∈before,p.block<W.heap.size:=fun p hp=>hW.lt p hp
 have hold:∀ p∈before,(fun b=>decide (b<W.heap.size)) p.block=true:=fun p hp=>by simpa using hlt p hp
 have hres':∀ (b:Nat) (sp:Nat→Bool) (hd:Bool),DataW.TrodAll enc Tryz.prog W' b sp hd f.resultTypes.toList ((Value.bool true).resultList f.resultTypes.size) (s.fn H (ds++gs)).results []:=by
  intro b sp hd
  rw [hres,hfn]
  exact trodAll_mk1 (shut_bool Tryz.underlying4 _)
 have hW2:=hW
 obtain ⟨p,q,hA,hV,hpq,hz,hn⟩:=hW
 rw [hv] at hV
 obtain ⟨_,rfl⟩:=trodVars_none hV
 rw [List.append_nil] at hpq
 subst hpq
 have hargs:∀ sp:Nat→Bool,(∀ p'∈before,sp p'.block=true)→DataW.TrodAll enc Tryz.prog W' 0 sp true f.params.toList args.toList (s.fn H (ds++gs)).args before:=fun sp hs=>by
  rw [hfa];exact bP hB hT hA hlt hs
 have hvars:∀ sp:Nat→Bool,DataW.TrodVars enc Tryz.prog W' sp s.vars (s.fn H (ds++gs)).vars []:=fun sp=>by rw [hv,P8];exact rfl
 refine ⟨ds,gs,before,[],before,[],hW2,hres' _ _ _,hargs _ hold,hvars _,World.keptBut_mono (fun p hp=>⟨hp,?_⟩) (Below.frame hB (·∈before)),fun _=>?_⟩
 · simpa using hp
 · refine ⟨ok_one hres rfl (okWide_bool_mk Tryz.underlying4 _),_,_,([]++before)++[],⟨[]++before,[],trodAll_append (hargs _ (fun _ _=>rfl)) (hres' _ _ _),hvars _,rfl,?_,?_⟩,?_⟩
   · intro b off hp
     have hin:MemPlace.cell b off∈before:=by simpa using hp
     rw [Below.frozen hB (hlt _ hin)]
     exact hz b off hin
   · intro ha
     have:=hn ha
     simpa using this
   · intro p hp _
     simpa using hp
theorem dS {H:Type} {enc:TypeId × Value→H} {W:World} {base:Nat} {v:Value} {d:DataW H} {ps:List MemPlace} (hval:Value.okWide Tryz.prog W .any base 22 v) (h:DataW.Trod enc Tryz.prog W 0 (fun _=>true) true 22 v d ps)
  (hlt:∀ p∈ps,p.block<W.heap.size):∃ xs:List Nat,U W v xs:=by
 obtain ⟨a0,len,cap,rfl⟩:=okWide_slice Tryz.underlying22 hval
 obtain ⟨fuel,hf⟩:=h
 rcases open_ints Tryz.underlying22 Tryz.underlying43 jK hf with ⟨hcs,hx⟩ | ⟨a,len',cap',zs,hcs,_,hl,hm,hz,hx,hcell,hwz⟩
 · simp [Value.cells] at hcs
   obtain ⟨rfl,rfl,rfl⟩:=hcs
   exact ⟨[],U.mE _ _ _⟩
 · simp [Value.cells] at hcs
   obtain ⟨rfl,rfl,rfl⟩:=hcs
   simp only [if_true] at hz
   have hlen:((zs.take len).map Int.toNat).length=len:=by simp;omega
   have hb:∀ z∈zs,0≤z∧z<4294967296:=fun z hzz=>by have:=bounds_u32 (hwz z hzz);omega
   refine ⟨(zs.take len).map Int.toNat,some a,cap,by rw [hlen],⟨by rw [hlen];exact hl,by rw [hlen];unfold maxLen at hm;omega⟩,?_,fun h0=>⟨a,rfl,?_,fun j hj=>?_⟩⟩
   · intro x hx'
     obtain ⟨z,hz1,rfl⟩:=List.mem_map.1 hx'
     have:=hb z (List.mem_of_mem_take hz1)
     omega
   · rw [hlen] at h0
     have hc:=hcell 0 (by omega)
     rw [fJ] at hc
     unfold World.cell? at hc
     rcases Nat.lt_or_ge a.block W.heap.size with h | h
     · exact h
     · rw [Array.getElem?_eq_none h] at hc;cases hc
   · rw [hlen] at hj
     have hjz:j<zs.length:=by omega
     have e:lb ((zs.take len).map Int.toNat) j=(zs.getD j 0).toNat:=by
      simp [lb,hj,hjz]
     rw [hcell j hjz,e]
     have hmem:zs.getD j 0∈zs:=by simp [hjz]
     have:=hb _ hmem
     rw [show (((zs.getD j 0).toNat:Nat):Int)=zs.getD j 0 by omega]
end Go.Proofs.YtnilonnkcbkdmaaGreatDoor
namespace Go.Proofs.YtnilonnkcbkdmaaGreatDoor
open Go.RowKit
set_option linter.unusedVariables false
set_option maxHeartbeats 400000
set_option maxRecDepth 100000
theorem iw (w:World) (v:Value) (n:Nat) (i:Int) (hi0 : -9000000000000≤i) (hi1:i≤9000000000000) (h:Un w v n) :
  Calls Tryz.prog 67 #[v,.int .i64 i] w fun e w'=>e = .returned (.int .u32 (fQ n i:Nat))∧w=w':=by
 obtain ⟨A,c,rfl,⟨hc,hm⟩,hx,hr⟩:=h
 by_cases h0:i<0
 · have HF:Hid (fQ n i=0):=if_pos h0
   go_enter Tryz.func67,Tryz.ntmps67
   go_wp2
   go_ret
   exact ⟨by rw [HF.out];rfl,rfl⟩
 · obtain ⟨k,rfl⟩:=Int.eq_ofNat_of_zero_le (show 0≤i by omega)
   have hkn:decide (((k:Nat):Int)<0)=false:=by rw [decide_eq_false_iff_not];omega
   have HB:Hid (fQ n (k:Int)=n/2^k%2):=by rw [Hid,fQ,if_neg h0,Int.toNat_natCast]
   by_cases h1:k/32<(limbs n).length
   · obtain ⟨ad,rfl,hb,hcell⟩:=hr (by omega)
     have hc1:=hcell (k/32) h1
     have HL:=Lib.hid (aQ hx (k/32))
     have HF:Hid (fQ n (k:Int)=lb (limbs n) (k/32)/2^(k%32)%2):=by
      rw [Hid,HB.out,mZ n k]
     clear HB
     go_enter Tryz.func67,Tryz.ntmps67
     go_wp2_with (fail)
     go_loop [5,6] (fun x j=>∃ m:Nat,m≤k%32∧j = .int .i64 m∧x = .int .u32 (lb (limbs n) (k/32)/2^m:Nat)) (fun x j=>k%32-(intOf j).toNat)
     case atStart=>exact ⟨0,Nat.zero_le _,rfl,by simp⟩
     case round =>
      obtain ⟨m,hm2,rfl,rfl⟩:=hrel
      have hq:lb (limbs n) (k/32)/2^m<4294967296:=Nat.lt_of_le_of_lt (Nat.div_le_self _ _) HL.out
      by_cases hlt:m<k%32
      · have HN:Hid (((lb (limbs n) (k/32)/2^m:Nat):Int)/2=((lb (limbs n) (k/32)/2^(m+1):Nat):Int)):=by
         rw [Hid,Nat.pow_succ,← Nat.div_div_eq_div_mul];omega
        generalize lb (limbs n) (k/32)/2^m=X at *
        go_wp2
        go_round
        case rel=>exact ⟨m+1,by omega,by go_num,by rw [HN.out]⟩
        case measure=>simp [intOf];omega
      · obtain rfl:m=k%32:=by omega
        generalize lb (limbs n) (k/32)/2^(k%32)=X at *
        go_wp2
        go_ret
        exact ⟨by rw [HF.out];rfl,rfl⟩
   · have HF:Hid (fQ n (k:Int)=0):=by rw [Hid,HB.out];exact rH n k (by omega)
     go_enter Tryz.func67,Tryz.ntmps67
     go_wp2
     go_ret
     exact ⟨by rw [HF.out];rfl,rfl⟩
theorem gy {t j:Nat} (h0:t/2^j=0) (h1:0<j→t/2^(j-1)≠0):bS t=j:=by
 have a:t<2^j:=by
  rcases Nat.lt_or_ge t (2^j) with h | h
  · exact h
  · have:=Nat.div_pos h (Nat.two_pow_pos j);omega
 rcases Nat.eq_zero_or_pos j with rfl | hj
 · have:t=0:=by simpa using a
   subst this;rfl
 · have b:2^(j-1)≤t:=by
    rcases Nat.lt_or_ge t (2^(j-1)) with h | h
    · exact absurd (Nat.div_eq_of_lt h) (h1 hj)
    · exact h
   have:=kW b (by rwa [show j-1+1=j by omega])
   omega
theorem gz (w:World) (v:Value) (n:Nat) (h:Un w v n) (hl:(limbs n).length≤1000000000) :
  Calls Tryz.prog 66 #[v] w fun e w'=>e = .returned (.int .i64 (bS n:Nat))∧∃ m,w'=w.drewN m:=by
 obtain ⟨A,c,rfl,⟨hc,hm⟩,hx,hr⟩:=h
 by_cases h0:n=0
 · subst h0
   have hz:limbs 0=[]:=bf
   rw [hz]
   clear hz hr hx hm hl hc
   have HF:Hid (bS 0=0):=rfl
   go_enter Tryz.func66,Tryz.ntmps66
   go_wp2
   go_ret
   exact ⟨by rw [HF.out];rfl,0,rfl⟩
 · have HF:=Lib.hid (jY n h0)
   have hlen:0<(limbs n).length:=by rw [eG h0];simp
   obtain ⟨ad,rfl,hb,hcell⟩:=hr hlen
   have hc1:=hcell ((limbs n).length-1) (by omega)
   have hne:(((limbs n).length:Int)==0)=false:=by rw [beq_eq_false_iff_ne];omega
   have hL:=aQ hx ((limbs n).length-1)
   have HL:=Lib.hid hL
   clear hL
   go_enter Tryz.func66,Tryz.ntmps66
   go_wp2_with (fail)
   go_region
   go_wp2_with (fail)
   clear hc1 hcell hr
   generalize ht:lb (limbs n) ((limbs n).length-1)=T at *
   clear ht
   go_loop [3,4] (fun m x=>∃ j:Nat,j≤32∧m = .int .i64 j∧x = .int .u32 (T/2^j:Nat)∧Hid (0<j→T/2^(j-1)≠0)) (fun m x=>33-(intOf m).toNat)
   case atStart=>exact ⟨0,Nat.zero_le _,rfl,by simp,fun h=>absurd h (by omega)⟩
   case round =>
    obtain ⟨j,hj,rfl,rfl,HZ⟩:=hrel
    have hq:T/2^j<4294967296:=Nat.lt_of_le_of_lt (Nat.div_le_self _ _) HL.out
    have HN:Hid (((T/2^j:Nat):Int)/2=((T/2^(j+1):Nat):Int)):=by
     rw [Hid,Nat.pow_succ,← Nat.div_div_eq_div_mul];omega
    rcases Nat.eq_zero_or_pos (T/2^j) with h0 | h0
    · have HT:Hid (bS T=j):=gy h0 HZ.out
      rw [h0]
      clear h0 hq HN
      go_wp2
      go_ret
      exact ⟨by rw [HF.out,HT.out];exact mJ (by omega),1,rfl⟩
    · have HP:Hid (T/2^j≠0):=by rw [Hid];omega
      have HJ:Hid (j<32):=by
       rw [Hid]
       rcases Nat.lt_or_ge j 32 with h | h
       · exact h
       · have:=Nat.pow_le_pow_right (n:=2) (by decide) h
         have h2:=HL.out
         exact absurd (Nat.div_eq_of_lt (Nat.lt_of_lt_of_le (by simpa using h2) this)) HP.out
      have TF:Hid (T/2^j≠0):=HP
      obtain ⟨X,hX⟩:∃ X,T/2^j=X:=⟨_,rfl⟩
      rw [hX] at HN HP hq h0
      rw [hX]
      clear hX
      go_wp2
      go_round
      case rel=>exact ⟨j+1,by have:=HJ.out;omega,by go_num,by rw [HN.out],fun _=>by rw [Nat.add_sub_cancel];exact TF.out⟩
      case measure=>have:=HJ.out;simp [intOf];omega
end Go.Proofs.YtnilonnkcbkdmaaGreatDoor
namespace Go.Proofs.YtnilonnkcbkdmaaGreatDoor
theorem iK {n m a b:Nat} (h1:(limbs n).length≤a) (h2:(limbs m).length≤b):(limbs (n+m)).length≤max a b+1:=by
 apply fM
 have g1:=Nat.lt_of_lt_of_le (bO h1) (Nat.pow_le_pow_right (show 0<4294967296 by decide) (Nat.le_max_left a b))
 have g2:=Nat.lt_of_lt_of_le (bO h2) (Nat.pow_le_pow_right (show 0<4294967296 by decide) (Nat.le_max_right a b))
 rw [Nat.pow_succ]
 omega
end Go.Proofs.YtnilonnkcbkdmaaGreatDoor
namespace Go.Proofs.YtnilonnkcbkdmaaGreatDoor
open Go.ChangeShapes Go.WideShapes Go.ChangeAt Go.RowKit
set_option linter.unusedVariables false
set_option maxRecDepth 100000
set_option maxHeartbeats 400000
theorem iE (xs:List Nat) (k:Nat) (hx:∀ x∈xs,x<4294967296):Ltl (dG xs k) k:=by
 have h:=lM (xs.take k) (fun x h=>hx x (List.mem_of_mem_take h))
 refine Nat.lt_of_lt_of_le h (Nat.pow_le_pow_right (by decide) ?_)
 rw [List.length_take];omega
end Go.Proofs.YtnilonnkcbkdmaaGreatDoor
namespace Go.Proofs.YtnilonnkcbkdmaaGreatDoor
open Go.RowKit
set_option linter.unusedVariables false
set_option maxHeartbeats 400000
attribute [local go_sem ↓] dH
attribute [local go_sem] aT
theorem aY {w0 w:World} (hB:Below w0.heap.size w0 w) {v:Value} {o:List Nat} (hown:Own w w0.heap.size v o) (z:Int) (x:Nat) (hz:z=(x:Int)) (hx:x<4294967296) (hlen:o.length+1≤35184372088832) :
  ∃ v' w',(Builtin.append_ #[22,22] 22 #[v,.slice (some ⟨w.heap.size,0,none⟩) 1 1]).run Tryz.prog (w.alloc (.cells #[.int .u32 z] 43)) = .ok v' w'∧Own w' w0.heap.size v' (o++[x])∧Below w0.heap.size w0 w':=by
 subst hz
 have hu:U (w.alloc (.cells #[.int .u32 (x:Int)] 43)) (.slice (some ⟨w.heap.size,0,none⟩) 1 1) [x]:=xJ w [x] (by simpa using hx) (by simp)
 have hB1:=hB.alloc hB.size (.cells #[.int .u32 (x:Int)] 43)
 obtain ⟨v',w',hrun,ho,hg⟩:=bE _ w0.heap.size _ o (World.ownsRow.alloc hown _) _ _ hu (by simpa using hlen) hB1.size
 exact ⟨v',w',hrun,ho,hB1.grown hg hB1.size (fun j e=>(World.ownsRow.lt hown j e).1)⟩
end Go.Proofs.YtnilonnkcbkdmaaGreatDoor
namespace Go.Proofs.YtnilonnkcbkdmaaGreatDoor
open Go.RowKit
set_option linter.unusedVariables false
set_option maxHeartbeats 400000
attribute [local go_sem ↓] dH
attribute [local go_sem] aT
set_option maxRecDepth 100000 in
theorem TP (w:World) (v u:Value) (n m:Nat) (h:Un w v n) (g:Un w u m) (hl:(limbs n).length≤100000000) (hl2:(limbs m).length≤100000000) (b:Bool) (hb:decide (m≤n)=b) (d:Nat) (hd:n-m=d) :
  Calls Tryz.prog 38 #[v,u] w fun e w'=>(∃ z,e = .returned (.tuple #[z,.bool b])∧Un w' z d)∧Below w.heap.size w w':=by
 obtain ⟨A,c,rfl,⟨hc,hm⟩,hx,hr⟩:=id h
 obtain ⟨A2,c2,rfl,⟨hc2,hm2⟩,hx2,hr2⟩:=id g
 clear hr hr2
 rcases Nat.lt_or_ge n m with hlt | hge
 · have HF:Hid (bQ (val (limbs n):Nat) (val (limbs m):Nat) = -1):=by rw [Hid,aG,aG];exact fu (Int.ofNat_lt.2 hlt)
   obtain rfl:d=0:=by omega
   obtain rfl:b=false:=by rw [← hb,decide_eq_false_iff_not];omega
   clear hb hd hlt
   go_enter Tryz.func38,Tryz.ntmps38
   go_wp2_with (fail)
   refine (dK _ _ _ _ _ h g (by omega) (by omega)).mono ?_
   rintro e w' ⟨rfl,rfl⟩
   rw [HF.out]
   go_wp2
   go_ret2
   exact ⟨⟨_,rfl,uA _⟩,Below.refl _ _⟩
 · have HF:Hid (0≤bQ (val (limbs n):Nat) (val (limbs m):Nat)):=by
    rw [Hid,aG,aG]
    rcases Nat.lt_or_ge m n with h1 | h1
    · rw [fG (Int.ofNat_lt.2 h1)];decide
    · obtain rfl:n=m:=by omega
      rw [fZ];decide
   obtain rfl:b=true:=by rw [← hb,decide_eq_true_iff];omega
   have HD:=Lib.hid hd
   have HG:=Lib.hid hge
   have hll:=gV hge
   clear hb hd hge
   obtain ⟨K,hK⟩:∃ K,bQ (val (limbs n):Nat) (val (limbs m):Nat)=K:=⟨_,rfl⟩
   have hK0:0≤K:=by rw [← hK];exact HF.out
   clear HF
   go_enter Tryz.func38,Tryz.ntmps38
   go_wp2_with (fail)
   refine (dK _ _ _ _ _ h g (by omega) (by omega)).mono ?_
   rintro e w' ⟨rfl,rfl⟩
   rw [hK]
   clear hK
   go_wp2_with (fail)
   have hown0:Own (w.alloc (.cells #[] 43)) w.heap.size (.slice (some ⟨w.heap.size,0,none⟩) 0 0) []:=World.ownsRow_lit w #[] 0 (Nat.le_refl _) (Nat.zero_le _) rfl
   have hB0:Below w.heap.size w (w.alloc (.cells #[] 43)):=(Below.refl _ _).alloc (Nat.le_refl _) _
   go_loopw [6,7,8] (fun s cv i wr=>∃ (k cy:Nat) (o:List Nat),k≤(limbs n).length∧i = .int .i64 k∧cv = .int .u64 cy∧Hid (mK (limbs n) (limbs m) k o cy)∧Own wr w.heap.size s o∧Below w.heap.size w wr) (fun _ _ i _=>(limbs n).length-(intOf i).toNat)
   case atStart=>exact ⟨0,0,[],Nat.zero_le _,rfl,rfl,mK.start _ _,hown0,hB0⟩
   case round =>
    clear hown0 hB0
    obtain ⟨k,cy,o,hk,rfl,rfl,HO,hown,hB⟩:=hrel
    by_cases hd1:k<(limbs n).length
    · have h1:=aQ hx k
      have h2:=aQ hx2 k
      have h3:=HO.out.carry
      have hlen:=HO.out.len
      obtain ⟨x1,hx1⟩:∃ x1,(4294967296+lb (limbs n) k-lb (limbs m) k-cy)%4294967296=x1:=⟨_,rfl⟩
      obtain ⟨c1,hc1⟩:∃ c1,1-(4294967296+lb (limbs n) k-lb (limbs m) k-cy)/4294967296=c1:=⟨_,rfl⟩
      have kL:Hid (mK (limbs n) (limbs m) (k+1) (o++[x1]) c1):=by rw [Hid,← hx1,← hc1];exact HO.out.step hx hx2
      obtain ⟨v',w',hrun,hown',hB'⟩:=aY hB hown ((4294967296+((lb (limbs n) k:Nat):Int)-((lb (limbs m) k:Nat):Int)-(cy:Int))%4294967296) x1 (by rw [← hx1];omega) (by rw [← hx1];exact Nat.mod_lt _ (by decide)) (by omega)
      obtain ⟨t1,t2,t3⟩:=aU hrun
      have kM:Hid (1-(4294967296+((lb (limbs n) k:Nat):Int)-((lb (limbs m) k:Nat):Int)-(cy:Int))/4294967296=(c1:Int)):=by rw [Hid,← hc1];omega
      clear hrun hx1 hc1 hlen
      go_wp2_with (fail)
      refine (aC _ _ (limbs n) _ k rfl (U.below h hB)).mono ?_
      rintro e w' ⟨rfl,rfl⟩
      go_wp2_with (fail)
      refine (aC _ _ (limbs m) _ k rfl (U.below g hB)).mono ?_
      rintro e w' ⟨rfl,rfl⟩
      go_wp2_with (fail)
      go_roundw
      case rel=>exact ⟨k+1,c1,_,by omega,by go_num,by rw [kM.out],kL,hown',hB'⟩
      case measure=>simp [intOf];omega
    · have hlen:=HO.out.len
      obtain rfl:k=(limbs n).length:=by omega
      have HV:Hid (val o=d):=by rw [Hid,HO.out.done hll (by rw [aG,aG];exact HG.out),aG,aG];exact HD.out
      have hu:=hown.lW HO.out.lt (by omega)
      have hol:o.length≤1000000000:=by omega
      clear hlen
      go_wp2_with (fail)
      refine (aW _ _ _ hu hol).mono ?_
      rintro e w' ⟨⟨z,rfl,hz⟩,hB2⟩
      have hz2:Un w' z d:=by rw [← HV.out];exact hz
      replace hB:=Below.trans hB (Below.mono hB2 hB.size)
      clear hz
      go_wp2
      go_ret2
      exact ⟨⟨_,rfl,hz2⟩,hB⟩
end Go.Proofs.YtnilonnkcbkdmaaGreatDoor
namespace Go.Proofs.YtnilonnkcbkdmaaGreatDoor
open Go.RowKit
set_option linter.unusedVariables false
set_option maxHeartbeats 400000
attribute [local go_sem ↓] dH
attribute [local go_sem] aT
set_option maxRecDepth 100000 in
theorem TQ (w:World) (v:Value) (n:Nat) (k0:Nat) (hk:k0≤100000000) (h:Un w v n) (hl:(limbs n).length≤100000000) :
  Calls Tryz.prog 39 #[v,.int .i64 (k0:Int)] w fun e w'=>(∃ u,e = .returned u∧Un w' u (n*2^k0))∧Below w.heap.size w w':=by
 obtain ⟨A,c,rfl,⟨hc,hm⟩,hx,hr⟩:=id h
 clear hr
 obtain ⟨Q,hQ⟩:∃ Q,k0/32=Q:=⟨_,rfl⟩
 obtain ⟨S,hS⟩:∃ S,k0%32=S:=⟨_,rfl⟩
 have eQ:(k0:Int)/32=(Q:Int):=by omega
 have eS:(k0:Int)%32=(S:Int):=by omega
 have HK:Hid (k0=32*Q+S):=by rw [Hid];omega
 have Ih:S<32:=by omega
 have JY:Q≤100000000:=by omega
 go_enter Tryz.func39,Tryz.ntmps39
 go_wp2_with (fail)
 have hown0:Own (w.alloc (.cells #[] 43)) w.heap.size (.slice (some ⟨w.heap.size,0,none⟩) 0 0) []:=World.ownsRow_lit w #[] 0 (Nat.le_refl _) (Nat.zero_le _) rfl
 have hB0:Below w.heap.size w (w.alloc (.cells #[] 43)):=(Below.refl _ _).alloc (Nat.le_refl _) _
 go_loopw [5,8] (fun s i wr=>∃ k:Nat,k≤Q∧i = .int .i64 k∧Own wr w.heap.size s (List.replicate k 0)∧Below w.heap.size w wr) (fun _ i _=>Q-(intOf i).toNat)
 case atStart=>exact ⟨0,Nat.zero_le _,rfl,hown0,hB0⟩
 case round =>
  clear hown0 hB0
  obtain ⟨k,hk1,rfl,hown,hB⟩:=hrel
  by_cases hd1:k<Q
  · obtain ⟨v',w',hrun,hown',hB'⟩:=aY hB hown 0 0 rfl (by decide) (by simp;omega)
    obtain ⟨t1,t2,t3⟩:=aU hrun
    rw [← List.replicate_succ'] at hown'
    clear hrun
    go_wp2
    go_roundw
    case rel=>exact ⟨k+1,by omega,by go_num,hown',hB'⟩
    case measure=>simp [intOf];omega
  · obtain rfl:k=Q:=by omega
    go_wp2_with (fail)
    go_loop [7,9] (fun b i=>∃ j:Nat,j≤S∧i = .int .i64 j∧b = .int .u64 (2^j:Nat)) (fun _ i=>S-(intOf i).toNat)
    case atStart=>exact ⟨0,Nat.zero_le _,rfl,rfl⟩
    case round =>
     obtain ⟨j,hj,rfl,rfl⟩:=hrel
     have hp1:2^j<4294967296:=Nat.lt_of_le_of_lt (Nat.pow_le_pow_right (by decide) (show j≤31 by omega)) (by decide)
     by_cases hd2:j<S
     · have HN:Hid (2*((2^j:Nat):Int)=((2^(j+1):Nat):Int)):=by rw [Hid,Nat.pow_succ];omega
       obtain ⟨X,hX⟩:∃ X,2^j=X:=⟨_,rfl⟩
       rw [hX] at HN hp1
       rw [hX]
       clear hX
       go_wp2
       go_round
       case rel=>exact ⟨j+1,by omega,by go_num,by rw [← HN.out]⟩
       case measure=>simp [intOf];omega
     · obtain rfl:j=S:=by omega
       have hp0:0<2^j:=Nat.two_pow_pos j
       have EH:Hid (n*2^k0=n*2^j*4294967296^k):=by
        rw [Hid,HK.out,pM,Nat.pow_add,Nat.mul_comm (2^(32*k)),← Nat.mul_assoc]
       obtain ⟨P,hP⟩:∃ P,2^j=P:=⟨_,rfl⟩
       rw [hP] at hp0 hp1 EH
       rw [hP]
       clear hP
       go_wp2_with (fail)
       have EI:Hid (jZ (limbs n) k P 0 (List.replicate k 0) 0):=jZ.start _ _ _ hp0
       go_loopw [5,6,10] (fun s cv i wr=>∃ (m cy:Nat) (o:List Nat),m≤(limbs n).length+1∧i = .int .i64 m∧cv = .int .u64 cy∧Hid (jZ (limbs n) k P m o cy)∧Own wr w.heap.size s o∧Below w.heap.size w wr) (fun _ _ i _=>(limbs n).length+1-(intOf i).toNat)
       case atStart=>exact ⟨0,0,_,Nat.zero_le _,rfl,rfl,EI,hown,hB⟩
       case round =>
        clear EI hown hB
        obtain ⟨m,cy,o,hm1,rfl,rfl,HO,hown,hB⟩:=hrel
        have hlen:=HO.out.len
        by_cases hd3:m≤(limbs n).length
        · have h1:=aQ hx m
          have h3:=HO.out.carry
          have h4:lb (limbs n) m*P+cy<4294967296*P:=by
           have:=Nat.mul_le_mul_right P (show lb (limbs n) m+1≤4294967296 by omega)
           rw [Nat.add_mul] at this;omega
          have e1:((lb (limbs n) m:Nat):Int)*(P:Int)=((lb (limbs n) m*P:Nat):Int):=by rw [Int.natCast_mul]
          have OD:((lb (limbs n) m:Nat):Int)*(P:Int)+(cy:Int)<18446744073709551616:=by rw [e1];omega
          have hm4:0≤((lb (limbs n) m:Nat):Int)*(P:Int):=by rw [e1];omega
          obtain ⟨x1,hx1⟩:∃ x1,(lb (limbs n) m*P+cy)%4294967296=x1:=⟨_,rfl⟩
          obtain ⟨c1,hc1⟩:∃ c1,(lb (limbs n) m*P+cy)/4294967296=c1:=⟨_,rfl⟩
          have kL:Hid (jZ (limbs n) k P (m+1) (o++[x1]) c1):=by rw [Hid,← hx1,← hc1];exact HO.out.step hx
          obtain ⟨v',w',hrun,hown',hB'⟩:=aY hB hown ((((lb (limbs n) m:Nat):Int)*(P:Int)+(cy:Int))%4294967296) x1 (by rw [← hx1,e1];omega) (by rw [← hx1];exact Nat.mod_lt _ (by decide)) (by omega)
          obtain ⟨t1,t2,t3⟩:=aU hrun
          have kM:Hid ((((lb (limbs n) m:Nat):Int)*(P:Int)+(cy:Int))/4294967296=(c1:Int)):=by rw [Hid,← hc1,e1];omega
          clear hrun hx1 hc1 hlen e1 h4
          go_wp2_with (fail)
          refine (aC _ _ (limbs n) _ m rfl (U.below h hB)).mono ?_
          rintro e w' ⟨rfl,rfl⟩
          go_wp2_with (fail)
          go_roundw
          case rel=>exact ⟨m+1,c1,_,by omega,by go_num,by rw [kM.out],kL,hown',hB'⟩
          case measure=>simp [intOf];omega
        · obtain rfl:m=(limbs n).length+1:=by omega
          have HV:Hid (val o=n*2^k0):=by rw [Hid,HO.out.done hx (Nat.le_refl _) hp1,aG,EH.out]
          have hu:=hown.lW HO.out.lt (by omega)
          have hol:o.length≤1000000000:=by omega
          clear hlen
          go_wp2_with (fail)
          refine (aW _ _ _ hu hol).mono ?_
          rintro e w' ⟨⟨z,rfl,hz⟩,hB2⟩
          have hz2:Un w' z (n*2^k0):=by rw [← HV.out];exact hz
          replace hB:=Below.trans hB (Below.mono hB2 hB.size)
          clear hz
          go_wp2
          go_ret
          exact ⟨⟨_,rfl,hz2⟩,hB⟩
end Go.Proofs.YtnilonnkcbkdmaaGreatDoor
namespace Go.Proofs.YtnilonnkcbkdmaaGreatDoor
open Go.RowKit
set_option linter.unusedVariables false
theorem kC (w:World) (v:Value) (n:Nat) (h:Un w v n) (hl:(limbs n).length≤1000000000) (k:Int) (hk:((bS n:Nat):Int)=k) :
  Calls Tryz.prog 66 #[v] w fun e w'=>e = .returned (.int .i64 k)∧Ext w w' :=
 (gz w v n h hl).mono fun e w' ⟨he,m,hw⟩=>⟨by rw [he,hk],by rw [hw];exact eU w m⟩
theorem l8 (w:World) (v:Value) (n:Nat) (i:Int) (h:Un w v n) (hi0 : -9000000000000≤i) (hi1:i≤9000000000000) (k:Int) (hk:((fQ n i:Nat):Int)=k) :
  Calls Tryz.prog 67 #[v,.int .i64 i] w fun e w'=>e = .returned (.int .u32 k)∧Ext w w' :=
 (iw w v n i hi0 hi1 h).mono fun e w' ⟨he,hw⟩=>⟨by rw [he,hk],by rw [← hw];exact Ext.refl w⟩
theorem TR (w:World) (v u:Value) (n m:Nat) (h:Un w v n) (g:Un w u m) (hm:(limbs n).length≤100000000) (hm2:(limbs m).length≤100000000) (b:Bool) (hb:decide (m≤n)=b) (d:Nat) (hd:n-m=d) :
  Calls Tryz.prog 38 #[v,u] w fun e w'=>∃ z,e = .returned (.tuple #[z,.bool b])∧Un w' z d∧Ext w w' :=
 (TP w v u n m h g hm hm2 b hb d hd).mono fun e w' ⟨⟨z,he,hz⟩,hb⟩=>⟨z,he,hz,hb⟩
theorem anX (w:World) (v:Value) (n:Nat) (k:Nat) (h:Un w v n) (hk1:k≤100000000) (hl:(limbs n).length≤100000000) (s:Nat) (hs:n*2^k=s) :
  Calls Tryz.prog 39 #[v,.int .i64 (k:Int)] w fun e w'=>∃ z,e = .returned z∧Un w' z s∧Ext w w':=by
 subst hs
 exact (TQ w v n k hk1 h hl).mono fun e w' ⟨⟨z,he,hz⟩,hb⟩=>⟨z,he,hz,hb⟩
end Go.Proofs.YtnilonnkcbkdmaaGreatDoor
namespace Go.Proofs.YtnilonnkcbkdmaaGreatDoor
open Go.RowKit
set_option linter.unusedVariables false
set_option maxHeartbeats 400000
section
variable {x y:Operand} {X:World}
section
variable {L:List Oper} {S:World→Prop} {K:List (Nat × Value)→World→Prop} {k:Bool} {i m d:Nat} {o:Oper} {r:List (Bool × Nat × Nat)} {l:List (Nat × Value)} {w:World}
end
end
theorem akG {x y:Operand} {a:Nat} {z:Int} {v:Bool} (h:((a:Int)==z)=v) (X:World):(do eqGuard .eql 43 x y (.int .u32 (a:Int)) (.int .u32 z);binOp .eql 43 (.int .u32 (a:Int)) (.int .u32 z):Sem Value).run Tryz.prog X = .ok (.bool v) X:=by
 subst h;go_simp
end Go.Proofs.YtnilonnkcbkdmaaGreatDoor
namespace Go.Proofs.YtnilonnkcbkdmaaGreatDoor
open Go.RowKit
set_option linter.unusedVariables false
set_option maxHeartbeats 400000
set_option maxRecDepth 100000
attribute [local go_sem ↓] dH
attribute [local go_sem] aT
theorem bL (w:World) (v:Value) (xs:List Nat) (h:U w v xs) (hlen:xs.length≤1000000000) :
  Calls Tryz.prog 37 #[v] w fun e w'=>(∃ u,e = .returned u∧U w' u (limbs (val xs))∧d9 w.heap.size u)∧Below w.heap.size w w':=by
 have h':=h
 obtain ⟨A,c,rfl,⟨hc,hm⟩,hx,hr⟩:=h
 go_enter Tryz.func37,Tryz.ntmps37
 go_wp2
 go_loop [3] (fun n=>∃ k:Nat,k≤xs.length∧n = .int .i64 k∧Hid (∀ j,k≤j→j<xs.length→lb xs j=0)) (fun n=>(intOf n).toNat)
 case atStart=>exact ⟨xs.length,Nat.le_refl _,rfl,fun j h1 h2=>by omega⟩
 case round =>
  obtain ⟨k,hk,rfl,hz⟩:=hrel
  have hfin:(0<k→lb xs (k-1)≠0)→∃ v' w',(Builtin.append_ #[22,22] 22 #[.slice (some ⟨w.heap.size,0,none⟩) 0 0,.slice A k c]).run Tryz.prog (w.alloc (.cells #[] 43)) = .ok v' w'∧(U w' v' (limbs (val xs))∧d9 w.heap.size v')∧Below w.heap.size w w':=fun h2=>by
   have hB:Below w.heap.size w (w.alloc (.cells #[] 43)):=(Below.refl _ _).alloc (Nat.le_refl _) _
   have hown:Own (w.alloc (.cells #[] 43)) w.heap.size (.slice (some ⟨w.heap.size,0,none⟩) 0 0) []:=World.ownsRow_lit w #[] 0 (Nat.le_refl _) (Nat.zero_le _) rfl
   have hu:U w (.slice A k c) (xs.take k):=h'.take hk (by omega)
   have htl:(xs.take k).length=k:=by simp;omega
   obtain ⟨v',w',hrun,ho,hg⟩:=bE _ w.heap.size _ [] hown _ _ (hu.below hB) (by rw [htl];simp;omega) hB.size
   refine ⟨v',w',hrun,?_,hB.grown hg hB.size (fun j e=>by cases e;exact Nat.le_refl _)⟩
   refine ⟨?_,ho.fr⟩
   rw [iJ xs k hx hk hz.out h2]
   rw [List.nil_append] at ho
   exact ho.lW (fun x hx'=>hx x (List.mem_of_mem_take hx')) (by rw [htl];omega)
  rcases Nat.eq_zero_or_pos k with rfl | h0
  · obtain ⟨v',w',hrun,HU,HB⟩:=hfin (fun h=>absurd h (by omega))
    obtain ⟨t1,t2,t3⟩:=aU hrun
    clear hfin hrun
    go_wp2
    go_ret
    exact ⟨⟨_,rfl,HU⟩,HB⟩
  · obtain ⟨ad,rfl,hb,hcell⟩:=hr (by omega)
    have hc1:=hcell (k-1) (by omega)
    by_cases hx0:lb xs (k-1)=0
    · have ht:((((lb xs (k-1):Nat)):Int)==0)=true:=by rw [hx0];rfl
      have HX:=Lib.hid hx0
      clear hx0 hfin
      go_wp2
      go_round
      case rel=>exact ⟨k-1,by omega,by go_num,fun j h1 h2=>by
       rcases Nat.lt_or_ge j k with h3 | h3
       · have:j=k-1:=by omega
         subst this;exact HX.out
       · exact hz.out j h3 h2⟩
      case measure=>simp [intOf];omega
    · have ht:((((lb xs (k-1):Nat)):Int)==0)=false:=by rw [beq_eq_false_iff_ne];omega
      obtain ⟨v',w',hrun,HU,HB⟩:=hfin (fun _=>hx0)
      obtain ⟨t1,t2,t3⟩:=aU hrun
      clear hfin hrun hx0
      go_wp2
      go_ret
      exact ⟨⟨_,rfl,HU⟩,HB⟩
set_option maxRecDepth 100000 in
theorem gB (w:World) (v u:Value) (xs ys:List Nat) (h:U w v xs) (g:U w u ys) (hl:xs.length≤100000000) (hl2:ys.length≤100000000) :
  Calls Tryz.prog 30 #[v,u] w fun e w'=>(∃ z,e = .returned z∧U w' z (limbs (val xs+val ys))∧d9 w.heap.size z)∧Below w.heap.size w w':=by
 obtain ⟨A,c,rfl,⟨hc,hm⟩,hx,hr⟩:=id h
 obtain ⟨A2,c2,rfl,⟨hc2,hm2⟩,hx2,hr2⟩:=id g
 clear hr hr2
 go_enter Tryz.func30,Tryz.ntmps30
 go_wp2_with (fail)
 have hown0:Own (w.alloc (.cells #[] 43)) w.heap.size (.slice (some ⟨w.heap.size,0,none⟩) 0 0) []:=World.ownsRow_lit w #[] 0 (Nat.le_refl _) (Nat.zero_le _) rfl
 have hB0:Below w.heap.size w (w.alloc (.cells #[] 43)):=(Below.refl _ _).alloc (Nat.le_refl _) _
 go_loopw [5,6,7] (fun s cv i wr=>∃ (k cy:Nat) (o:List Nat),k≤max xs.length ys.length+1∧i = .int .i64 k∧cv = .int .u64 cy∧Hid (iW xs ys k o cy)∧Own wr w.heap.size s o∧Below w.heap.size w wr) (fun _ _ i _=>max xs.length ys.length+2-(intOf i).toNat)
 case atStart=>exact ⟨0,0,[],Nat.zero_le _,rfl,rfl,iW.start xs ys,hown0,hB0⟩
 case round =>
  clear hown0 hB0
  obtain ⟨k,cy,o,hk,rfl,rfl,HO,hown,hB⟩:=hrel
  by_cases hd1:k≤xs.length
  · have h1:=aQ hx k
    have h2:=aQ hx2 k
    have h3:=HO.out.carry
    have hlen:=HO.out.len
    obtain ⟨x1,hx1⟩:∃ x1,(lb xs k+lb ys k+cy)%4294967296=x1:=⟨_,rfl⟩
    obtain ⟨c1,hc1⟩:∃ c1,(lb xs k+lb ys k+cy)/4294967296=c1:=⟨_,rfl⟩
    have kL:Hid (iW xs ys (k+1) (o++[x1]) c1):=by rw [Hid,← hx1,← hc1];exact HO.out.step hx hx2
    obtain ⟨v',w',hrun,hown',hB'⟩:=aY hB hown ((((lb xs k:Nat):Int)+((lb ys k:Nat):Int)+(cy:Int))%4294967296) x1 (by rw [← hx1];omega) (by rw [← hx1];exact Nat.mod_lt _ (by decide)) (by omega)
    obtain ⟨t1,t2,t3⟩:=aU hrun
    have hk2:k+1≤max xs.length ys.length+1:=by omega
    have kM:Hid ((((lb xs k:Nat):Int)+((lb ys k:Nat):Int)+(cy:Int))/4294967296=(c1:Int)):=by rw [Hid,← hc1];omega
    clear hrun hx1 hc1 hlen
    go_wp2_with (fail)
    refine (aC _ _ xs _ k rfl (h.below hB)).mono ?_
    rintro e w' ⟨rfl,rfl⟩
    go_wp2_with (fail)
    refine (aC _ _ ys _ k rfl (g.below hB)).mono ?_
    rintro e w' ⟨rfl,rfl⟩
    go_wp2_with (fail)
    go_roundw
    case rel=>exact ⟨k+1,c1,_,hk2,by go_num,by rw [kM.out],kL,hown',hB'⟩
    case measure=>simp [intOf];omega
  · by_cases hd2:k≤ys.length
    · have h1:=aQ hx k
      have h2:=aQ hx2 k
      have h3:=HO.out.carry
      have hlen:=HO.out.len
      obtain ⟨x1,hx1⟩:∃ x1,(lb xs k+lb ys k+cy)%4294967296=x1:=⟨_,rfl⟩
      obtain ⟨c1,hc1⟩:∃ c1,(lb xs k+lb ys k+cy)/4294967296=c1:=⟨_,rfl⟩
      have kL:Hid (iW xs ys (k+1) (o++[x1]) c1):=by rw [Hid,← hx1,← hc1];exact HO.out.step hx hx2
      obtain ⟨v',w',hrun,hown',hB'⟩:=aY hB hown ((((lb xs k:Nat):Int)+((lb ys k:Nat):Int)+(cy:Int))%4294967296) x1 (by rw [← hx1];omega) (by rw [← hx1];exact Nat.mod_lt _ (by decide)) (by omega)
      obtain ⟨t1,t2,t3⟩:=aU hrun
      have hk2:k+1≤max xs.length ys.length+1:=by omega
      have kM:Hid ((((lb xs k:Nat):Int)+((lb ys k:Nat):Int)+(cy:Int))/4294967296=(c1:Int)):=by rw [Hid,← hc1];omega
      clear hrun hx1 hc1 hlen
      go_wp2_with (fail)
      refine (aC _ _ xs _ k rfl (h.below hB)).mono ?_
      rintro e w' ⟨rfl,rfl⟩
      go_wp2_with (fail)
      refine (aC _ _ ys _ k rfl (g.below hB)).mono ?_
      rintro e w' ⟨rfl,rfl⟩
      go_wp2_with (fail)
      go_roundw
      case rel=>exact ⟨k+1,c1,_,hk2,by go_num,by rw [kM.out],kL,hown',hB'⟩
      case measure=>simp [intOf];omega
    · have hlen:=HO.out.len
      obtain ⟨j,rfl⟩:∃ j,k=j+1:=⟨k-1,by omega⟩
      have HV:Hid (val o=val xs+val ys):=HO.out.done hx hx2 (by omega) (by omega)
      have hu:=hown.lW HO.out.lt (by omega)
      have hol:o.length≤1000000000:=by omega
      clear hlen
      go_wp2_with (fail)
      refine (bL _ _ _ hu hol).mono ?_
      rintro e w' ⟨⟨z,rfl,hz,hf⟩,hB2⟩
      have hf2:Hid (d9 w.heap.size z):=hf.mono hB.size
      clear hf
      rw [HV.out] at hz
      replace hB:=Below.trans hB (Below.mono hB2 hB.size)
      go_wp2
      go_ret
      exact ⟨⟨_,rfl,hz,hf2.out⟩,hB⟩
set_option maxRecDepth 100000 in
theorem gD (w:World) (v u:Value) (n m:Nat) (h:Un w v n) (g:Un w u m) (hl:(limbs n).length≤100000000) (hl2:(limbs m).length≤100000000) (b:Bool) (hb:decide (m≤n)=b) (d:Nat) (hd:n-m=d) :
  Calls Tryz.prog 38 #[v,u] w fun e w'=>(∃ z,e = .returned (.tuple #[z,.bool b])∧Un w' z d∧d9 w.heap.size z)∧Below w.heap.size w w':=by
 obtain ⟨A,c,rfl,⟨hc,hm⟩,hx,hr⟩:=id h
 obtain ⟨A2,c2,rfl,⟨hc2,hm2⟩,hx2,hr2⟩:=id g
 clear hr hr2
 rcases Nat.lt_or_ge n m with hlt | hge
 · have HF:Hid (bQ (val (limbs n):Nat) (val (limbs m):Nat) = -1):=by rw [Hid,aG,aG];exact fu (Int.ofNat_lt.2 hlt)
   obtain rfl:d=0:=by omega
   obtain rfl:b=false:=by rw [← hb,decide_eq_false_iff_not];omega
   clear hb hd hlt
   go_enter Tryz.func38,Tryz.ntmps38
   go_wp2_with (fail)
   refine (dK _ _ _ _ _ h g (by omega) (by omega)).mono ?_
   rintro e w' ⟨rfl,rfl⟩
   rw [HF.out]
   go_wp2
   go_ret2
   exact ⟨⟨_,rfl,uA _,d9.mE _ _ _⟩,Below.refl _ _⟩
 · have HF:Hid (0≤bQ (val (limbs n):Nat) (val (limbs m):Nat)):=by
    rw [Hid,aG,aG]
    rcases Nat.lt_or_ge m n with h1 | h1
    · rw [fG (Int.ofNat_lt.2 h1)];decide
    · obtain rfl:n=m:=by omega
      rw [fZ];decide
   obtain rfl:b=true:=by rw [← hb,decide_eq_true_iff];omega
   have HD:=Lib.hid hd
   have HG:=Lib.hid hge
   have hll:=gV hge
   clear hb hd hge
   obtain ⟨K,hK⟩:∃ K,bQ (val (limbs n):Nat) (val (limbs m):Nat)=K:=⟨_,rfl⟩
   have hK0:0≤K:=by rw [← hK];exact HF.out
   clear HF
   go_enter Tryz.func38,Tryz.ntmps38
   go_wp2_with (fail)
   refine (dK _ _ _ _ _ h g (by omega) (by omega)).mono ?_
   rintro e w' ⟨rfl,rfl⟩
   rw [hK]
   clear hK
   go_wp2_with (fail)
   have hown0:Own (w.alloc (.cells #[] 43)) w.heap.size (.slice (some ⟨w.heap.size,0,none⟩) 0 0) []:=World.ownsRow_lit w #[] 0 (Nat.le_refl _) (Nat.zero_le _) rfl
   have hB0:Below w.heap.size w (w.alloc (.cells #[] 43)):=(Below.refl _ _).alloc (Nat.le_refl _) _
   go_loopw [6,7,8] (fun s cv i wr=>∃ (k cy:Nat) (o:List Nat),k≤(limbs n).length∧i = .int .i64 k∧cv = .int .u64 cy∧Hid (mK (limbs n) (limbs m) k o cy)∧Own wr w.heap.size s o∧Below w.heap.size w wr) (fun _ _ i _=>(limbs n).length-(intOf i).toNat)
   case atStart=>exact ⟨0,0,[],Nat.zero_le _,rfl,rfl,mK.start _ _,hown0,hB0⟩
   case round =>
    clear hown0 hB0
    obtain ⟨k,cy,o,hk,rfl,rfl,HO,hown,hB⟩:=hrel
    by_cases hd1:k<(limbs n).length
    · have h1:=aQ hx k
      have h2:=aQ hx2 k
      have h3:=HO.out.carry
      have hlen:=HO.out.len
      obtain ⟨x1,hx1⟩:∃ x1,(4294967296+lb (limbs n) k-lb (limbs m) k-cy)%4294967296=x1:=⟨_,rfl⟩
      obtain ⟨c1,hc1⟩:∃ c1,1-(4294967296+lb (limbs n) k-lb (limbs m) k-cy)/4294967296=c1:=⟨_,rfl⟩
      have kL:Hid (mK (limbs n) (limbs m) (k+1) (o++[x1]) c1):=by rw [Hid,← hx1,← hc1];exact HO.out.step hx hx2
      obtain ⟨v',w',hrun,hown',hB'⟩:=aY hB hown ((4294967296+((lb (limbs n) k:Nat):Int)-((lb (limbs m) k:Nat):Int)-(cy:Int))%4294967296) x1 (by rw [← hx1];omega) (by rw [← hx1];exact Nat.mod_lt _ (by decide)) (by omega)
      obtain ⟨t1,t2,t3⟩:=aU hrun
      have kM:Hid (1-(4294967296+((lb (limbs n) k:Nat):Int)-((lb (limbs m) k:Nat):Int)-(cy:Int))/4294967296=(c1:Int)):=by rw [Hid,← hc1];omega
      clear hrun hx1 hc1 hlen
      go_wp2_with (fail)
      refine (aC _ _ (limbs n) _ k rfl (U.below h hB)).mono ?_
      rintro e w' ⟨rfl,rfl⟩
      go_wp2_with (fail)
      refine (aC _ _ (limbs m) _ k rfl (U.below g hB)).mono ?_
      rintro e w' ⟨rfl,rfl⟩
      go_wp2_with (fail)
      go_roundw
      case rel=>exact ⟨k+1,c1,_,by omega,by go_num,by rw [kM.out],kL,hown',hB'⟩
      case measure=>simp [intOf];omega
    · have hlen:=HO.out.len
      obtain rfl:k=(limbs n).length:=by omega
      have HV:Hid (val o=d):=by rw [Hid,HO.out.done hll (by rw [aG,aG];exact HG.out),aG,aG];exact HD.out
      have hu:=hown.lW HO.out.lt (by omega)
      have hol:o.length≤1000000000:=by omega
      clear hlen
      go_wp2_with (fail)
      refine (bL _ _ _ hu hol).mono ?_
      rintro e w' ⟨⟨z,rfl,hz,hf⟩,hB2⟩
      have hf2:Hid (d9 w.heap.size z):=hf.mono hB.size
      clear hf
      have hz2:Un w' z d:=by rw [← HV.out];exact hz
      replace hB:=Below.trans hB (Below.mono hB2 hB.size)
      clear hz
      go_wp2
      go_ret2
      exact ⟨⟨_,rfl,hz2,hf2.out⟩,hB⟩
set_option maxRecDepth 100000 in
theorem gF (w:World) (v:Value) (n:Nat) (k0:Nat) (hk:k0≤100000000) (h:Un w v n) (hl:(limbs n).length≤100000000) :
  Calls Tryz.prog 39 #[v,.int .i64 (k0:Int)] w fun e w'=>(∃ u,e = .returned u∧Un w' u (n*2^k0)∧d9 w.heap.size u)∧Below w.heap.size w w':=by
 obtain ⟨A,c,rfl,⟨hc,hm⟩,hx,hr⟩:=id h
 clear hr
 obtain ⟨Q,hQ⟩:∃ Q,k0/32=Q:=⟨_,rfl⟩
 obtain ⟨S,hS⟩:∃ S,k0%32=S:=⟨_,rfl⟩
 have eQ:(k0:Int)/32=(Q:Int):=by omega
 have eS:(k0:Int)%32=(S:Int):=by omega
 have HK:Hid (k0=32*Q+S):=by rw [Hid];omega
 have Ih:S<32:=by omega
 have JY:Q≤100000000:=by omega
 go_enter Tryz.func39,Tryz.ntmps39
 go_wp2_with (fail)
 have hown0:Own (w.alloc (.cells #[] 43)) w.heap.size (.slice (some ⟨w.heap.size,0,none⟩) 0 0) []:=World.ownsRow_lit w #[] 0 (Nat.le_refl _) (Nat.zero_le _) rfl
 have hB0:Below w.heap.size w (w.alloc (.cells #[] 43)):=(Below.refl _ _).alloc (Nat.le_refl _) _
 go_loopw [5,8] (fun s i wr=>∃ k:Nat,k≤Q∧i = .int .i64 k∧Own wr w.heap.size s (List.replicate k 0)∧Below w.heap.size w wr) (fun _ i _=>Q-(intOf i).toNat)
 case atStart=>exact ⟨0,Nat.zero_le _,rfl,hown0,hB0⟩
 case round =>
  clear hown0 hB0
  obtain ⟨k,hk1,rfl,hown,hB⟩:=hrel
  by_cases hd1:k<Q
  · obtain ⟨v',w',hrun,hown',hB'⟩:=aY hB hown 0 0 rfl (by decide) (by simp;omega)
    obtain ⟨t1,t2,t3⟩:=aU hrun
    rw [← List.replicate_succ'] at hown'
    clear hrun
    go_wp2
    go_roundw
    case rel=>exact ⟨k+1,by omega,by go_num,hown',hB'⟩
    case measure=>simp [intOf];omega
  · obtain rfl:k=Q:=by omega
    go_wp2_with (fail)
    go_loop [7,9] (fun b i=>∃ j:Nat,j≤S∧i = .int .i64 j∧b = .int .u64 (2^j:Nat)) (fun _ i=>S-(intOf i).toNat)
    case atStart=>exact ⟨0,Nat.zero_le _,rfl,rfl⟩
    case round =>
     obtain ⟨j,hj,rfl,rfl⟩:=hrel
     have hp1:2^j<4294967296:=Nat.lt_of_le_of_lt (Nat.pow_le_pow_right (by decide) (show j≤31 by omega)) (by decide)
     by_cases hd2:j<S
     · have HN:Hid (2*((2^j:Nat):Int)=((2^(j+1):Nat):Int)):=by rw [Hid,Nat.pow_succ];omega
       obtain ⟨X,hX⟩:∃ X,2^j=X:=⟨_,rfl⟩
       rw [hX] at HN hp1
       rw [hX]
       clear hX
       go_wp2
       go_round
       case rel=>exact ⟨j+1,by omega,by go_num,by rw [← HN.out]⟩
       case measure=>simp [intOf];omega
     · obtain rfl:j=S:=by omega
       have hp0:0<2^j:=Nat.two_pow_pos j
       have EH:Hid (n*2^k0=n*2^j*4294967296^k):=by
        rw [Hid,HK.out,pM,Nat.pow_add,Nat.mul_comm (2^(32*k)),← Nat.mul_assoc]
       obtain ⟨P,hP⟩:∃ P,2^j=P:=⟨_,rfl⟩
       rw [hP] at hp0 hp1 EH
       rw [hP]
       clear hP
       go_wp2_with (fail)
       have EI:Hid (jZ (limbs n) k P 0 (List.replicate k 0) 0):=jZ.start _ _ _ hp0
       go_loopw [5,6,10] (fun s cv i wr=>∃ (m cy:Nat) (o:List Nat),m≤(limbs n).length+1∧i = .int .i64 m∧cv = .int .u64 cy∧Hid (jZ (limbs n) k P m o cy)∧Own wr w.heap.size s o∧Below w.heap.size w wr) (fun _ _ i _=>(limbs n).length+1-(intOf i).toNat)
       case atStart=>exact ⟨0,0,_,Nat.zero_le _,rfl,rfl,EI,hown,hB⟩
       case round =>
        clear EI hown hB
        obtain ⟨m,cy,o,hm1,rfl,rfl,HO,hown,hB⟩:=hrel
        have hlen:=HO.out.len
        by_cases hd3:m≤(limbs n).length
        · have h1:=aQ hx m
          have h3:=HO.out.carry
          have h4:lb (limbs n) m*P+cy<4294967296*P:=by
           have:=Nat.mul_le_mul_right P (show lb (limbs n) m+1≤4294967296 by omega)
           rw [Nat.add_mul] at this;omega
          have e1:((lb (limbs n) m:Nat):Int)*(P:Int)=((lb (limbs n) m*P:Nat):Int):=by rw [Int.natCast_mul]
          have OD:((lb (limbs n) m:Nat):Int)*(P:Int)+(cy:Int)<18446744073709551616:=by rw [e1];omega
          have hm4:0≤((lb (limbs n) m:Nat):Int)*(P:Int):=by rw [e1];omega
          obtain ⟨x1,hx1⟩:∃ x1,(lb (limbs n) m*P+cy)%4294967296=x1:=⟨_,rfl⟩
          obtain ⟨c1,hc1⟩:∃ c1,(lb (limbs n) m*P+cy)/4294967296=c1:=⟨_,rfl⟩
          have kL:Hid (jZ (limbs n) k P (m+1) (o++[x1]) c1):=by rw [Hid,← hx1,← hc1];exact HO.out.step hx
          obtain ⟨v',w',hrun,hown',hB'⟩:=aY hB hown ((((lb (limbs n) m:Nat):Int)*(P:Int)+(cy:Int))%4294967296) x1 (by rw [← hx1,e1];omega) (by rw [← hx1];exact Nat.mod_lt _ (by decide)) (by omega)
          obtain ⟨t1,t2,t3⟩:=aU hrun
          have kM:Hid ((((lb (limbs n) m:Nat):Int)*(P:Int)+(cy:Int))/4294967296=(c1:Int)):=by rw [Hid,← hc1,e1];omega
          clear hrun hx1 hc1 hlen e1 h4
          go_wp2_with (fail)
          refine (aC _ _ (limbs n) _ m rfl (U.below h hB)).mono ?_
          rintro e w' ⟨rfl,rfl⟩
          go_wp2_with (fail)
          go_roundw
          case rel=>exact ⟨m+1,c1,_,by omega,by go_num,by rw [kM.out],kL,hown',hB'⟩
          case measure=>simp [intOf];omega
        · obtain rfl:m=(limbs n).length+1:=by omega
          have HV:Hid (val o=n*2^k0):=by rw [Hid,HO.out.done hx (Nat.le_refl _) hp1,aG,EH.out]
          have hu:=hown.lW HO.out.lt (by omega)
          have hol:o.length≤1000000000:=by omega
          clear hlen
          go_wp2_with (fail)
          refine (bL _ _ _ hu hol).mono ?_
          rintro e w' ⟨⟨z,rfl,hz,hf⟩,hB2⟩
          have hf2:Hid (d9 w.heap.size z):=hf.mono hB.size
          clear hf
          have hz2:Un w' z (n*2^k0):=by rw [← HV.out];exact hz
          replace hB:=Below.trans hB (Below.mono hB2 hB.size)
          clear hz
          go_wp2
          go_ret
          exact ⟨⟨_,rfl,hz2,hf2.out⟩,hB⟩
theorem l9 (w:World) (v u:Value) (n m:Nat) (h:Un w v n) (g:Un w u m) (hm:(limbs n).length≤100000000) (hm2:(limbs m).length≤100000000) (s:Nat) (hs:n+m=s) :
  Calls Tryz.prog 30 #[v,u] w fun e w'=>∃ z,e = .returned z∧Un w' z s∧d9 w.heap.size z∧Ext w w':=by
 subst hs
 have:=gB w v u _ _ h g hm hm2
 rw [aG,aG] at this
 exact this.mono fun e w' ⟨⟨z,he,hz,hf⟩,hb⟩=>⟨z,he,hz,hf,hb⟩
theorem iL (w:World) (v u:Value) (n m:Nat) (h:Un w v n) (g:Un w u m) (hm:(limbs n).length≤100000000) (hm2:(limbs m).length≤100000000) (b:Bool) (hb:decide (m≤n)=b) (d:Nat) (hd:n-m=d) :
  Calls Tryz.prog 38 #[v,u] w fun e w'=>∃ z,e = .returned (.tuple #[z,.bool b])∧Un w' z d∧d9 w.heap.size z∧Ext w w' :=
 (gD w v u n m h g hm hm2 b hb d hd).mono fun e w' ⟨⟨z,he,hz,hf⟩,hb⟩=>⟨z,he,hz,hf,hb⟩
theorem iM (w:World) (v:Value) (n:Nat) (k:Nat) (h:Un w v n) (hk1:k≤100000000) (hl:(limbs n).length≤100000000) (s:Nat) (hs:n*2^k=s) :
  Calls Tryz.prog 39 #[v,.int .i64 (k:Int)] w fun e w'=>∃ z,e = .returned z∧Un w' z s∧d9 w.heap.size z∧Ext w w':=by
 subst hs
 exact (gF w v n k hk1 h hl).mono fun e w' ⟨⟨z,he,hz,hf⟩,hb⟩=>⟨z,he,hz,hf,hb⟩
end Go.Proofs.YtnilonnkcbkdmaaGreatDoor
namespace Go.Proofs.YtnilonnkcbkdmaaGreatDoor
open Go.RowKit
set_option linter.unusedVariables false
set_option maxHeartbeats 400000
set_option maxRecDepth 100000 in
set_option maxHeartbeats 8000000 in
theorem jU (w:World) (va vb:Value) (a b q r:Nat) (bn:Un w va a) (bC:Un w vb b) (hla:(limbs a).length≤200) (hlb:(limbs b).length≤200) (Iq:b≠0) (hq:a/b=q) (hr:a%b=r) :
  Calls Tryz.prog 36 #[va,vb] w fun e w'=>Dv w w' e q r:=by
 unfold Dv
 have HB:=Ext.refl w
 have sN:=oI Iq
 have uZ:=Lib.hid hlb
 obtain ⟨Ab,cb,rfl,hcb⟩:=U.shape (U.aL bC)
 obtain ⟨Aa,ca,rfl,hca⟩:=U.shape (U.aL bn)
 obtain ⟨Lb,Ir⟩:∃ Lb,(limbs b).length=Lb:=⟨_,rfl⟩
 obtain ⟨La,Bh⟩:∃ La,(limbs a).length=La:=⟨_,rfl⟩
 obtain ⟨bl,hbl⟩:∃ bl,bS a=bl:=⟨_,rfl⟩
 rw [Ir] at bC hlb sN ⊢
 rw [Bh] at bn hla ⊢
 have hL0:((Lb:Int)==0)=false:=by rw [beq_eq_false_iff_ne];omega
 have hL1:¬ Lb=0:=by omega
 have gG:bl≤32*La:=by rw [← hbl,← Bh];exact jQ a
 have kG:=Lib.hid (fun W (h:Un W (.slice Aa La ca) a)=>kC W _ a h (by omega) (bl:Int) (by rw [hbl]))
 have kX:=Lib.hid (fun W (j:Nat) (hj:j≤10000) k (hk:a/2^j%2=k) (h:Un W (.slice Aa La ca) a)=>l8 W _ a (j:Int) h (by omega) (by omega) (k:Int) (by rw [mX,hk]))
 have Ew:Hid (oz a b La bl (List.replicate La 0)):=by
  refine ⟨by simp,by simp,?_⟩
  rw [bM,Nat.div_eq_of_lt (show a<2^bl by rw [← hbl];exact dI a),Nat.zero_div,Nat.zero_mul]
 have Dk:Hid (a/2^bl%b=0):=by rw [Hid,Nat.div_eq_of_lt (show a<2^bl by rw [← hbl];exact dI a),Nat.zero_mod]
 have AJ:Hid (∀ o,oz a b La 0 o→val o=q):=fun o h=>by
  have:=h.val
  rwa [Nat.pow_zero,Nat.div_one,Nat.mul_one,hq] at this
 have HDR:Hid (∀ r',a/2^0%b=r'→r'=r):=fun r' h=>by
  rw [Nat.pow_zero,Nat.div_one,hr] at h;exact h.symm
 have HB0:=Lib.hid (show 0<b by omega)
 have jr:Hid (∀ x,x≤2*b+1→(limbs x).length≤300):=fun x h=>by
  have h1:(limbs b).length≤200:=by omega
  have h2:=iK h1 h1
  have h3:(limbs 1).length≤1:=by rw [dA 1 (by decide) (by decide)];simp
  have h4:=iK h2 h3
  exact Nat.le_trans (gV (show x≤b+b+1 by omega)) (Nat.le_trans h4 (by decide))
 obtain ⟨i0,hi,hz0,hz1,hz2⟩:=info_parts iT
 obtain ⟨B,hB⟩:∃ B,w.heap.size=B:=⟨_,rfl⟩
 have pW:=Lib.hid hB
 clear Ir Bh hbl hq hr hcb hca sN Iq
 have ha0:=bn
 have hb0:=bC
 go_enter Tryz.func36,Tryz.ntmps36
 go_wp2_with (at_make;refine wpList_make_full _ rfl _ _ 22 rfl w.heap.size 43 i0 (.int .u32 0) 1 Tryz.underlying22 hi hz0 hz1 _ _ _ _ La rfl rfl (by omega) (by omega) (by rw [hz2];omega) (by unfold maxLen;omega) (Nat.le_refl _) ?_;intro w1 hown hgrow)
 have ho0:Own w1 w.heap.size (.slice (some ⟨w.heap.size,0,none⟩) La La) (List.replicate La 0):=by
  have:=Own.zeros hown
  rwa [List.length_replicate] at this
 have hE0:Ext w w1:=Below.grown (Ext.refl w) hgrow (Nat.le_refl _) (fun _ h=>by cases h)
 rw [hB] at ho0
 replace bn:=U.below (U.aL bn) hE0
 replace bC:=U.below (U.aL bC) hE0
 clear hown hgrow hi hz0 hz1 hz2 i0 HB
 have Iu:=ho0.block.2
 go_wp2_with (fail)
 refine (kG.out _ (U.alloc (U.aL bn) _)).mono ?_
 rintro e w2 ⟨rfl,hB2⟩
 have hR0:Un w2 (.slice (some ⟨w1.heap.size,0,none⟩) 0 0) 0:=U.un (U.mE _ _ _) bf
 have Iw:d9 (B+1) (.slice (some ⟨w1.heap.size,0,none⟩) 0 0):=fun ad n c e=>by
  injection e with e1 _ _
  injection e1 with e1
  subst e1
  exact Iu
 replace ho0:=(ho0.alloc (.cells #[] 43)).ext hB2
 replace hE0:=(hE0.alloc (.cells #[] 43)).below hB2
 replace bn:=U.below (U.alloc (U.aL bn) _) hB2
 replace bC:=U.below (U.alloc (U.aL bC) _) hB2
 clear hB2 Iu kG
 go_wp2
 go_loopw [8,9] (fun s8 s9 wr=>∃ (j:Nat) (z:Int) (R:Nat) (o:List Nat),j≤bl∧s9 = .int .i64 z∧z=(j:Int)-1∧Un wr s8 R∧d9 (B+1) s8∧Hid (a/2^j%b=R)∧Hid (oz a b La j o)∧Own wr B (.slice (some ⟨B,0,none⟩) La La) o∧Ext w wr) (fun _ s9 _=>(intOf s9+1).toNat)
 case atStart=>exact ⟨bl,_,0,_,Nat.le_refl _,rfl,rfl,hR0,Iw,Dk,Ew,ho0,hE0⟩
 case round =>
  clear hR0 Iw Dk Ew ho0 bn bC hE0
  obtain ⟨j,z,R,o,hj,rfl,hz,hR,hf,jG,HO,hown,hE⟩:=hrel
  have bn:=U.below (U.aL ha0) hE
  have bC:=U.below (U.aL hb0) hE
  cases j with
  | zero =>
   obtain rfl:z = -1:=by omega
   obtain rfl:=HDR.out R jG.out
   have hu:=hown.lW HO.out.lt (by rw [HO.out.len];omega)
   have hlo:=HO.out.len
   have Iy:=Lib.hid (iq _ _ o hu (by omega) q (AJ.out o HO.out))
   have Iz:=Lib.hid (fun W (h:Un W u8 R)=>iq W _ (limbs R) h (by have:=jr.out R (by have:=jG.out;have:=Nat.mod_lt (a/2^0) HB0.out;omega);omega) R (aG R))
   clear hu hlo hown HO AJ HDR hz bn bC jr hf
   go_wp2_with (fail)
   refine Iy.out.mono ?_
   rintro e w3 ⟨v3,rfl,hv3,hB3⟩
   replace hR:=U.below (U.aL hR) hB3
   replace hE:=hE.below hB3
   clear hB3 Iy
   go_wp2_with (fail)
   refine (Iz.out _ hR).mono ?_
   rintro e w4 ⟨v4,rfl,hv4,hB4⟩
   replace hE:=hE.below hB4
   have HF:Hid (∃ x' y',Ending.returned (.tuple #[v3,v4,.int .i64 0]) = .returned (.tuple #[x',y',.int .i64 0])∧Un w4 x' q∧Un w4 y' R):=⟨_,_,rfl,U.below (U.aL hv3) hB4,hv4⟩
   clear hB4 Iz hv3 hv4 hR
   go_wp2
   go_ret3
   exact ⟨HF.out,hE⟩
  | succ j =>
   obtain rfl:z=(j:Int):=by omega
   clear hz
   have hwr:=hown.block.2
   have hRb:R<b:=by rw [← jG.out];exact Nat.mod_lt _ HB0.out
   obtain ⟨R1,ku⟩:∃ R1,R*2^1=R1:=⟨_,rfl⟩
   have HR1:=Lib.hid ku
   have hj2:j≤10000:=by omega
   obtain ⟨k,hk⟩:∃ k,j/32=k:=⟨_,rfl⟩
   obtain ⟨s,hs⟩:∃ s,j%32=s:=⟨_,rfl⟩
   obtain ⟨P,hP⟩:∃ P,2^s=P:=⟨_,rfl⟩
   obtain ⟨x,hxe⟩:∃ x,lb o k=x:=⟨_,rfl⟩
   have hkl:k<La:=by omega
   have gH:k<o.length:=by rw [HO.out.len];exact hkl
   have k1:(j:Int)/32=(k:Int):=by omega
   have k2:(j:Int).tdiv 32=(k:Int):=by rw [Int.tdiv_eq_ediv_of_nonneg (Int.natCast_nonneg _)];exact k1
   have k3:(j:Int)%32=(s:Int):=by omega
   have k4:(j:Int).tmod 32=(s:Int):=by rw [Int.tmod_eq_emod_of_nonneg (Int.natCast_nonneg _)];exact k3
   have k5:(0:Int)≤(k:Int):=Int.natCast_nonneg k
   have k6:(k:Int)<(La:Int):=by omega
   have k7:(0:Int)≤(s:Int):=Int.natCast_nonneg s
   have k8:=jB (show k≤1000000 by omega)
   have k9:=jB (show s≤1000000 by omega)
   have hPb:P≤2147483648:=by
    rw [← hP]
    show 2^s≤2^31
    exact Nat.pow_le_pow_right (by decide) (by omega)
   have p1:(2:Int)^s=(P:Int):=by rw [← hP,Int.natCast_pow];rfl
   have p2:=gN (show P<4294967296 by omega)
   have p3:=gP (show P<4294967296 by omega)
   rcases (show a/2^j%2=0∨a/2^j%2=1 by omega) with hbit | hbit
   · obtain ⟨R2,hR2⟩:∃ R2,R1=R2:=⟨_,rfl⟩
     subst hR2
     by_cases hge:b≤R1
     · obtain ⟨d,hd⟩:∃ d,R1-b=d:=⟨_,rfl⟩
       obtain ⟨h1,h2,h3⟩:=HO.out.more HB0.out 0 R k s P x hbit jG.out (by omega) hk hs hP hxe hkl
       obtain ⟨y,hy⟩:∃ y,x+P=y:=⟨_,rfl⟩
       rw [hy] at h1 h2
       have HST:=Lib.hid h2
       have HRR:Hid (a/2^j%b=d):=by rw [Hid,h3];omega
       have q1:(x:Int)+(P:Int)=(y:Int):=by omega
       have q2:=gN h1
       have q3:=gP h1
       have HH:=Lib.hid (And.intro hj2 (And.intro hbit (And.intro hge (And.intro hd (And.intro gH (And.intro hxe (And.intro hRb (And.intro ku (And.intro gG (And.intro hlb hwr))))))))))
       clear hk hs hP h1 h2 h3 hy HO jG hj2 hbit hge hd gH hxe hRb ku hkl hPb gG hlb hwr
       go_wp2_with (fail)
       refine (iM _ _ R 1 hR (by decide) (by have:=HH.out;have:=jr.out R (by omega);omega) R1 HR1.out).mono ?_
       rintro e w3 ⟨v3,rfl,hv3,hf3,hB3⟩
       replace hf3:d9 (B+1) v3:=hf3.mono HH.out.2.2.2.2.2.2.2.2.2.2
       replace bn:=U.below (U.aL bn) hB3
       replace bC:=U.below (U.aL bC) hB3
       replace hown:=hown.ext hB3
       replace hE:=hE.below hB3
       clear hB3 hR hf
       go_wp2_with (fail)
       refine (kX.out _ j HH.out.1 0 HH.out.2.1 bn).mono ?_
       rintro e w4 ⟨rfl,hB4⟩
       replace bn:=U.below (U.aL bn) hB4
       replace bC:=U.below (U.aL bC) hB4
       replace hv3:=U.below (U.aL hv3) hB4
       replace hown:=hown.ext hB4
       replace hE:=hE.below hB4
       clear hB4
       have hv5:=hv3
       have nT:=hf3
       clear hv3 hf3
       have jD:=hown.block.2
       go_wp2_with (fail)
       refine (iL _ _ _ R1 b hv5 bC (by have:=HH.out;have:=HR1.out;have:=jr.out R1 (by omega);omega) (by have:=uZ.out;omega) true (by rw [decide_eq_true_iff];exact HH.out.2.2.1) d HH.out.2.2.2.1).mono ?_
       rintro e w6 ⟨v6,rfl,hv6,gI,aZ⟩
       replace gI:d9 (B+1) v6:=gI.mono jD
       replace hown:=hown.ext aZ
       replace hE:=hE.below aZ
       replace hv5:=U.below (U.aL hv5) aZ
       clear aZ bn bC
       have hcz:=hown.rd.2 k HH.out.2.2.2.2.1
       rw [HH.out.2.2.2.2.2.1] at hcz
       have hfz:=hown.frozen' k
       have qH:But B w6 (w6.setCell ⟨B,k,none⟩ (.int .u32 (y:Nat))):=(But.refl B w6).setCell k _
       have hown2:=hown.set' k y
       have hv7:=U.apart (U.aL hv6) gI (Nat.lt_succ_self B) qH
       have hE2:=hE.setCell (p:=⟨B,k,none⟩) (by rw [pW.out];exact Nat.le_refl _) (.int .u32 (y:Nat))
       clear hv5 nT hv6 hown hE qH jD
       go_wp2
       go_region
       all_goals
        go_wp2
        go_roundw
        case rel=>exact ⟨j,_,d,_,by omega,rfl,rfl,hv7,gI,HRR,HST,hown2.drew,hE2.drew⟩
        case measure=>simp [intOf]
     · obtain ⟨d,hd⟩:∃ d,R1-b=d:=⟨_,rfl⟩
       obtain ⟨h2,h3⟩:=HO.out.none 0 R hbit jG.out (by omega)
       have HST:=Lib.hid h2
       have HRR:Hid (a/2^j%b=R1):=by rw [Hid,h3];omega
       have HH:=Lib.hid (And.intro hj2 (And.intro hbit (And.intro hge (And.intro hd (And.intro gH (And.intro hxe (And.intro hRb (And.intro ku (And.intro gG (And.intro hlb hwr))))))))))
       clear hk hs hP h2 h3 HO jG hj2 hbit hge hd gH hxe hRb ku hkl hPb gG hlb hwr
       go_wp2_with (fail)
       refine (iM _ _ R 1 hR (by decide) (by have:=HH.out;have:=jr.out R (by omega);omega) R1 HR1.out).mono ?_
       rintro e w3 ⟨v3,rfl,hv3,hf3,hB3⟩
       replace hf3:d9 (B+1) v3:=hf3.mono HH.out.2.2.2.2.2.2.2.2.2.2
       replace bn:=U.below (U.aL bn) hB3
       replace bC:=U.below (U.aL bC) hB3
       replace hown:=hown.ext hB3
       replace hE:=hE.below hB3
       clear hB3 hR hf
       go_wp2_with (fail)
       refine (kX.out _ j HH.out.1 0 HH.out.2.1 bn).mono ?_
       rintro e w4 ⟨rfl,hB4⟩
       replace bn:=U.below (U.aL bn) hB4
       replace bC:=U.below (U.aL bC) hB4
       replace hv3:=U.below (U.aL hv3) hB4
       replace hown:=hown.ext hB4
       replace hE:=hE.below hB4
       clear hB4
       have hv5:=hv3
       have nT:=hf3
       clear hv3 hf3
       have jD:=hown.block.2
       go_wp2_with (fail)
       refine (iL _ _ _ R1 b hv5 bC (by have:=HH.out;have:=HR1.out;have:=jr.out R1 (by omega);omega) (by have:=uZ.out;omega) false (by rw [decide_eq_false_iff_not];exact HH.out.2.2.1) d HH.out.2.2.2.1).mono ?_
       rintro e w6 ⟨v6,rfl,hv6,gI,aZ⟩
       replace gI:d9 (B+1) v6:=gI.mono jD
       replace hown:=hown.ext aZ
       replace hE:=hE.below aZ
       replace hv5:=U.below (U.aL hv5) aZ
       clear aZ bn bC
       clear hv6 gI jD
       go_wp2
       go_roundw
       case rel=>exact ⟨j,_,R1,_,by omega,rfl,rfl,hv5,nT,HRR,HST,hown,hE⟩
       case measure=>simp [intOf]
   · obtain ⟨R2,hR2⟩:∃ R2,R1+1=R2:=⟨_,rfl⟩
     have HR2:=Lib.hid hR2
     by_cases hge:b≤R2
     · obtain ⟨d,hd⟩:∃ d,R2-b=d:=⟨_,rfl⟩
       obtain ⟨h1,h2,h3⟩:=HO.out.more HB0.out 1 R k s P x hbit jG.out (by omega) hk hs hP hxe hkl
       obtain ⟨y,hy⟩:∃ y,x+P=y:=⟨_,rfl⟩
       rw [hy] at h1 h2
       have HST:=Lib.hid h2
       have HRR:Hid (a/2^j%b=d):=by rw [Hid,h3];omega
       have q1:(x:Int)+(P:Int)=(y:Int):=by omega
       have q2:=gN h1
       have q3:=gP h1
       have HH:=Lib.hid (And.intro hj2 (And.intro hbit (And.intro hge (And.intro hd (And.intro gH (And.intro hxe (And.intro hRb (And.intro ku (And.intro gG (And.intro hlb hwr))))))))))
       clear hk hs hP h1 h2 h3 hy HO jG hj2 hbit hge hd gH hxe hRb ku hkl hPb gG hlb hwr hR2
       go_wp2_with (fail)
       refine (iM _ _ R 1 hR (by decide) (by have:=HH.out;have:=jr.out R (by omega);omega) R1 HR1.out).mono ?_
       rintro e w3 ⟨v3,rfl,hv3,hf3,hB3⟩
       replace hf3:d9 (B+1) v3:=hf3.mono HH.out.2.2.2.2.2.2.2.2.2.2
       replace bn:=U.below (U.aL bn) hB3
       replace bC:=U.below (U.aL bC) hB3
       replace hown:=hown.ext hB3
       replace hE:=hE.below hB3
       clear hB3 hR hf
       go_wp2_with (fail)
       refine (kX.out _ j HH.out.1 1 HH.out.2.1 bn).mono ?_
       rintro e w4 ⟨rfl,hB4⟩
       replace bn:=U.below (U.aL bn) hB4
       replace bC:=U.below (U.aL bC) hB4
       replace hv3:=U.below (U.aL hv3) hB4
       replace hown:=hown.ext hB4
       replace hE:=hE.below hB4
       clear hB4
       have hl:=Lib.hid (jR w4)
       have hw4:=hown.block.2
       go_wp2_with (fail)
       refine (l9 _ _ _ R1 1 (U.alloc (U.aL hv3) _) hl.out (by have:=HH.out;have:=HR1.out;have:=jr.out R1 (by omega);omega) (by have:=qi;rw [dA 1 (by decide) (by decide)];simp) R2 HR2.out).mono ?_
       rintro e w5 ⟨v5,rfl,hv5,sO,bH⟩
       have nT:d9 (B+1) v5:=sO.mono (by simp;omega)
       replace bn:=U.below (U.alloc (U.aL bn) _) bH
       replace bC:=U.below (U.alloc (U.aL bC) _) bH
       replace hown:=(hown.alloc _).ext bH
       replace hE:=(hE.alloc _).below bH
       clear bH sO hv3 hf3 hl hw4
       have jD:=hown.block.2
       go_wp2_with (fail)
       refine (iL _ _ _ R2 b hv5 bC (by have:=HH.out;have:=HR1.out;have:=HR2.out;have:=jr.out R2 (by omega);omega) (by have:=uZ.out;omega) true (by rw [decide_eq_true_iff];exact HH.out.2.2.1) d HH.out.2.2.2.1).mono ?_
       rintro e w6 ⟨v6,rfl,hv6,gI,aZ⟩
       replace gI:d9 (B+1) v6:=gI.mono jD
       replace hown:=hown.ext aZ
       replace hE:=hE.below aZ
       replace hv5:=U.below (U.aL hv5) aZ
       clear aZ bn bC
       have hcz:=hown.rd.2 k HH.out.2.2.2.2.1
       rw [HH.out.2.2.2.2.2.1] at hcz
       have hfz:=hown.frozen' k
       have qH:But B w6 (w6.setCell ⟨B,k,none⟩ (.int .u32 (y:Nat))):=(But.refl B w6).setCell k _
       have hown2:=hown.set' k y
       have hv7:=U.apart (U.aL hv6) gI (Nat.lt_succ_self B) qH
       have hE2:=hE.setCell (p:=⟨B,k,none⟩) (by rw [pW.out];exact Nat.le_refl _) (.int .u32 (y:Nat))
       clear hv5 nT hv6 hown hE qH jD
       go_wp2
       go_region
       all_goals
        go_wp2
        go_roundw
        case rel=>exact ⟨j,_,d,_,by omega,rfl,rfl,hv7,gI,HRR,HST,hown2.drew,hE2.drew⟩
        case measure=>simp [intOf]
     · obtain ⟨d,hd⟩:∃ d,R2-b=d:=⟨_,rfl⟩
       obtain ⟨h2,h3⟩:=HO.out.none 1 R hbit jG.out (by omega)
       have HST:=Lib.hid h2
       have HRR:Hid (a/2^j%b=R2):=by rw [Hid,h3];omega
       have HH:=Lib.hid (And.intro hj2 (And.intro hbit (And.intro hge (And.intro hd (And.intro gH (And.intro hxe (And.intro hRb (And.intro ku (And.intro gG (And.intro hlb hwr))))))))))
       clear hk hs hP h2 h3 HO jG hj2 hbit hge hd gH hxe hRb ku hkl hPb gG hlb hwr hR2
       go_wp2_with (fail)
       refine (iM _ _ R 1 hR (by decide) (by have:=HH.out;have:=jr.out R (by omega);omega) R1 HR1.out).mono ?_
       rintro e w3 ⟨v3,rfl,hv3,hf3,hB3⟩
       replace hf3:d9 (B+1) v3:=hf3.mono HH.out.2.2.2.2.2.2.2.2.2.2
       replace bn:=U.below (U.aL bn) hB3
       replace bC:=U.below (U.aL bC) hB3
       replace hown:=hown.ext hB3
       replace hE:=hE.below hB3
       clear hB3 hR hf
       go_wp2_with (fail)
       refine (kX.out _ j HH.out.1 1 HH.out.2.1 bn).mono ?_
       rintro e w4 ⟨rfl,hB4⟩
       replace bn:=U.below (U.aL bn) hB4
       replace bC:=U.below (U.aL bC) hB4
       replace hv3:=U.below (U.aL hv3) hB4
       replace hown:=hown.ext hB4
       replace hE:=hE.below hB4
       clear hB4
       have hl:=Lib.hid (jR w4)
       have hw4:=hown.block.2
       go_wp2_with (fail)
       refine (l9 _ _ _ R1 1 (U.alloc (U.aL hv3) _) hl.out (by have:=HH.out;have:=HR1.out;have:=jr.out R1 (by omega);omega) (by have:=qi;rw [dA 1 (by decide) (by decide)];simp) R2 HR2.out).mono ?_
       rintro e w5 ⟨v5,rfl,hv5,sO,bH⟩
       have nT:d9 (B+1) v5:=sO.mono (by simp;omega)
       replace bn:=U.below (U.alloc (U.aL bn) _) bH
       replace bC:=U.below (U.alloc (U.aL bC) _) bH
       replace hown:=(hown.alloc _).ext bH
       replace hE:=(hE.alloc _).below bH
       clear bH sO hv3 hf3 hl hw4
       have jD:=hown.block.2
       go_wp2_with (fail)
       refine (iL _ _ _ R2 b hv5 bC (by have:=HH.out;have:=HR1.out;have:=HR2.out;have:=jr.out R2 (by omega);omega) (by have:=uZ.out;omega) false (by rw [decide_eq_false_iff_not];exact HH.out.2.2.1) d HH.out.2.2.2.1).mono ?_
       rintro e w6 ⟨v6,rfl,hv6,gI,aZ⟩
       replace gI:d9 (B+1) v6:=gI.mono jD
       replace hown:=hown.ext aZ
       replace hE:=hE.below aZ
       replace hv5:=U.below (U.aL hv5) aZ
       clear aZ bn bC
       clear hv6 gI jD
       go_wp2
       go_roundw
       case rel=>exact ⟨j,_,R2,_,by omega,rfl,rfl,hv5,nT,HRR,HST,hown,hE⟩
       case measure=>simp [intOf]
end Go.Proofs.YtnilonnkcbkdmaaGreatDoor
namespace Go.Proofs.YtnilonnkcbkdmaaGreatDoor
open Go.RowKit
set_option linter.unusedVariables false
set_option linter.unusedSimpArgs false
set_option maxHeartbeats 400000
namespace EJ
theorem jH (u:Array Value) (X:World):(callFunc 36 u).run Tryz.prog X = .ok (.enter 36 u) X:=Pl.enters Tryz.func36 (by kernel_rfl) rfl u X
end EJ
open EJ
end Go.Proofs.YtnilonnkcbkdmaaGreatDoor
namespace Go.Proofs.YtnilonnkcbkdmaaGreatDoor
open Go.RowKit
set_option linter.unusedVariables false
set_option maxHeartbeats 400000
theorem Ext.uJ {w0 w:World} (h:Ext w0 w) {N:Nat} (hN:w0.heap.size≤N) (new:Array Value):Ext w0 (w.setRow N new):=below_setRow h hN new
end Go.Proofs.YtnilonnkcbkdmaaGreatDoor
namespace Go.Proofs.YtnilonnkcbkdmaaGreatDoor
open Go.RowKit
set_option linter.unusedVariables false
set_option linter.unusedSimpArgs false
set_option maxHeartbeats 400000
namespace Ez
theorem jH (u:Array Value) (X:World):(callFunc 36 u).run Tryz.prog X = .ok (.enter 36 u) X:=Pl.enters Tryz.func36 (by kernel_rfl) rfl u X
end Ez
open Ez
end Go.Proofs.YtnilonnkcbkdmaaGreatDoor
namespace Go.Proofs.YtnilonnkcbkdmaaGreatDoor
open Go.RowKit
set_option linter.unusedVariables false
set_option linter.unusedSimpArgs false
set_option maxHeartbeats 400000
namespace EK
theorem jH (u:Array Value) (X:World):(callFunc 36 u).run Tryz.prog X = .ok (.enter 36 u) X:=Pl.enters Tryz.func36 (by kernel_rfl) rfl u X
end EK
open EK
end Go.Proofs.YtnilonnkcbkdmaaGreatDoor
namespace Go.Proofs.YtnilonnkcbkdmaaGreatDoor
open Go.RowKit
set_option linter.unusedVariables false
set_option maxHeartbeats 400000
theorem oP (a m:Nat):Nat.gcd (a%m) m=Nat.gcd a m:=by rw [Nat.gcd_comm a m,Nat.gcd_rec m a]
theorem iy {a m:Nat} (h:Nat.gcd a m=1):Nat.gcd (a%m) m=1:=(oP a m).trans h
theorem uH {m:Nat} (z:Int) (h:m≠0):(z%(m:Int)).natAbs<m:=by
 have h1:=Int.emod_nonneg z (show (m:Int)≠0 by omega)
 have h2:=Int.emod_lt_of_pos z (show (0:Int)<(m:Int) by omega)
 omega
theorem oQ {m K:Nat} {z:Int} (hm:Sn m K) (h:m≠0):Sn (z%(m:Int)).natAbs K:=hm.down (Nat.le_of_lt (uH z h))
end Go.Proofs.YtnilonnkcbkdmaaGreatDoor
namespace Go.Proofs.YtnilonnkcbkdmaaGreatDoor
set_option linter.unusedVariables false
set_option maxHeartbeats 400000
theorem ad2:∀ (N:Nat) (f:Nat→Nat),(∀ i,i<N→f i<N)→(∀ i j,i<N→j<N→f i=f j→i=j)→∀ y,y<N→∃ i,i<N∧f i=y
 | 0,_,_,_,y,hy=>absurd hy (Nat.not_lt_zero y)
 | N + 1,f,hf,hi,y,hy=>by
  have hv:=hf N (Nat.lt_succ_self N)
  have hg:=ad2 N (fun i=>if f i=N then f N else f i) (by
   intro i hlt
   have h1:=hf i (by omega)
   by_cases e:f i=N
   · have:f N≠N:=fun e2=>by have:=hi i N (by omega) (by omega) (by rw [e,e2]);omega
     simp only [e,if_true];omega
   · simp only [e,if_false];omega) (by
   intro i j h1 h2 he
   have key:∀ a b,a<N→b<N→f a=N→f b≠N→f N≠f b:=fun a b ha hb e1 e2 e3=>by have:=hi N b (by omega) (by omega) e3;omega
   by_cases e1:f i=N
   · by_cases e2:f j=N
     · exact hi i j (by omega) (by omega) (by rw [e1,e2])
     · simp only [e1,e2,if_true,if_false] at he
       exact absurd he (key i j h1 h2 e1 e2)
   · by_cases e2:f j=N
     · simp only [e1,e2,if_true,if_false] at he
       exact absurd he.symm (key j i h2 h1 e2 e1)
     · simp only [e1,e2,if_false] at he
       exact hi i j (by omega) (by omega) he)
  by_cases hyN:y=N
  · subst hyN
    by_cases e:f y=y
    · exact ⟨y,by omega,e⟩
    · obtain ⟨i,h1,h2⟩:=hg (f y) (by omega)
      by_cases e1:f i=y
      · exact ⟨i,by omega,e1⟩
      · simp only [e1,if_false] at h2
        have:=hi i y (by omega) (by omega) h2
        omega
  · obtain ⟨i,h1,h2⟩:=hg y (by omega)
    by_cases e1:f i=N
    · simp only [e1,if_true] at h2
      exact ⟨N,by omega,h2⟩
    · simp only [e1,if_false] at h2
      exact ⟨i,by omega,h2⟩
def Prm (q:Nat):Prop:=2≤q∧∀ d,d∣q→d=1∨d=q
theorem one_mod {n:Nat} (hn:2≤n):1%n=1:=Nat.mod_eq_of_lt hn
theorem EN {g n a b:Nat} (hn:2≤n) (ha:g^a%n=1) (hb:g^b%n=1) (h:b≤a):g^(a-b)%n=1:=by
 have e:g^a=g^(a-b)*g^b:=by rw [← Nat.pow_add];congr 1;omega
 rw [e,Nat.mul_mod,hb,Nat.mul_one,Nat.mod_mod] at ha
 exact ha
theorem WA {g n a:Nat} (hn:2≤n) (ha:g^a%n=1) (k:Nat):g^(a*k)%n=1:=by
 rw [Nat.pow_mul,Nat.pow_mod,ha,Nat.one_pow,one_mod hn]
theorem Qj {g n:Nat} (hn:2≤n) (a b:Nat) (ha:g^a%n=1) (hb:g^b%n=1):g^(Nat.gcd a b)%n=1:=by
 induction a,b using Nat.gcd.induction with
 | H0 b=>rw [Nat.gcd_zero_left];exact hb
 | H1 a b h ih =>
  rw [Nat.gcd_rec]
  refine ih ?_ ha
  have e:b%a=b-a*(b/a):=by have:=Nat.div_add_mod b a;omega
  rw [e]
  exact EN hn hb (WA hn ha _) (by have:=Nat.div_add_mod b a;omega)
theorem Qk:∀ (l:List Nat) (m:Nat),(∀ q∈l,Prm q)→m∣l.foldr (·*·) 1→m≠1→∃ q∈l,q∣m
 | [],m,_,hm,h1=>absurd (Nat.dvd_one.1 hm) h1
 | q::l,m,hp,hm,h1=>by
  rcases (hp q (by simp)).2 (Nat.gcd m q) (Nat.gcd_dvd_right m q) with h | h
  · obtain ⟨r,hr,hd⟩:=Qk l m (fun q hq=>hp q (by simp [hq])) (Nat.Coprime.dvd_of_dvd_mul_left h hm) h1
    exact ⟨r,by simp [hr],hd⟩
  · exact ⟨q,by simp,by rw [← h];exact Nat.gcd_dvd_left m q⟩
structure Cert (n g:Nat) (l:List Nat):Prop where
 two:2≤n
 prod:l.foldr (·*·) 1=n-1
 auh:∀ q∈l,Prm q
 one:g^(n-1)%n=1
 ne:∀ q∈l,g^((n-1)/q)%n≠1
theorem Cert.order {n g:Nat} {l:List Nat} (c:Cert n g l) {i:Nat} (h0:0<i) (hi:i<n-1):g^i%n≠1:=by
 intro h
 have hd:=Qj c.two i (n-1) h c.one
 have hdv:=Nat.gcd_dvd_right i (n-1)
 have hle:=Nat.gcd_le_left (n-1) h0
 have hpos:0<Nat.gcd i (n-1):=Nat.gcd_pos_of_pos_left _ h0
 generalize Nat.gcd i (n-1)=d at *
 obtain ⟨m,hm⟩:=hdv
 have h1:m≠1:=by rintro rfl;omega
 obtain ⟨q,hq,k,hk⟩:=Qk l m c.auh (by rw [c.prod,hm];exact Nat.dvd_mul_left m d) h1
 refine c.ne q hq ?_
 have e:(n-1)/q=d*k:=by
  have hq2:=(c.auh q hq).1
  rw [hm,hk,Nat.mul_left_comm,Nat.mul_div_cancel_left _ (by omega)]
 rw [e]
 exact WA c.two hd k
theorem Cert.nz {n g:Nat} {l:List Nat} (c:Cert n g l) {i:Nat} (hi:i≤n-1):g^i%n≠0:=by
 intro h
 have e:g^(n-1)=g^i*g^(n-1-i):=by rw [← Nat.pow_add];congr 1;omega
 have h1:=c.one
 rw [e,Nat.mul_mod,h,Nat.zero_mul,Nat.zero_mod] at h1
 cases h1
theorem Cert.all {n g:Nat} {l:List Nat} (c:Cert n g l) {a:Nat} (h0:0<a) (ha:a<n):∃ i,g^i%n=a:=by
 have h2:=c.two
 have hlt:∀ i,g^i%n<n:=fun i=>Nat.mod_lt _ (by omega)
 obtain ⟨i,_,hi⟩:=ad2 (n-1) (fun i=>g^i%n-1) (fun i h=>by have:=hlt i;have:=c.nz (Nat.le_of_lt h);show g^i%n-1<n-1;omega) (by
  have key:∀ i j,i<j→j<n-1→g^i%n≠g^j%n:=by
   intro i j hij hj he
   have e1:g^(n-1)%n=g^(j+(n-1-i))%n:=by
    have:g^(n-1)=g^i*g^(n-1-i):=by rw [← Nat.pow_add];congr 1;omega
    rw [this,Nat.pow_add,Nat.mul_mod,he,← Nat.mul_mod]
   have e2:g^(j+(n-1-i))%n=1:=by rw [← e1];exact c.one
   have e3:=EN c.two e2 c.one (by omega)
   rw [show j+(n-1-i)-(n-1)=j-i from by omega] at e3
   exact c.order (by omega) (by omega) e3
  intro i j h1 h3 he
  have n1:=c.nz (Nat.le_of_lt h1)
  have n2:=c.nz (Nat.le_of_lt h3)
  have he2:g^i%n=g^j%n:=by
   have:g^i%n-1=g^j%n-1:=he
   omega
  rcases Nat.lt_trichotomy i j with h | h | h
  · exact absurd he2 (key i j h h3)
  · exact h
  · exact absurd he2.symm (key j i h h1)) (a-1) (by omega)
 refine ⟨i,?_⟩
 have hn:=hlt i
 have:g^i%n-1=a-1:=hi
 by_cases hz:g^i%n=0
 · exfalso
   have:=c.nz (i:=i) (by omega)
   exact this hz
 · omega
theorem Cert.ad3 {n g:Nat} {l:List Nat} (c:Cert n g l) {a:Nat} (h0:0<a) (ha:a<n):a^(n-1)%n=1:=by
 obtain ⟨i,hi⟩:=c.all h0 ha
 rw [← hi,← Nat.pow_mod,← Nat.pow_mul,Nat.mul_comm,Nat.pow_mul,Nat.pow_mod,c.one,Nat.one_pow,one_mod c.two]
theorem Cert.dM {n g:Nat} {l:List Nat} (c:Cert n g l):Prm n:=by
 refine ⟨c.two,fun d hd=>?_⟩
 have h2:=c.two
 have hpos:0<d:=Nat.pos_of_dvd_of_pos hd (by omega)
 rcases Nat.lt_or_eq_of_le (Nat.le_of_dvd (by omega) hd) with h | h
 · left
   have e:=c.ad3 hpos h
   have h3:d∣d^(n-1)%n:=(Nat.dvd_mod_iff hd).2 (Nat.dvd_trans (Nat.dvd_refl d) (by rw [show n-1=(n-2)+1 from by omega,Nat.pow_succ];exact Nat.dvd_mul_left d _))
   rw [e] at h3
   exact Nat.dvd_one.1 h3
 · exact .inr h
end Go.Proofs.YtnilonnkcbkdmaaGreatDoor
namespace Go.Proofs.YtnilonnkcbkdmaaGreatDoor
set_option linter.unusedVariables false
set_option maxHeartbeats 400000
def pwm (n:Nat):Nat→Nat→Nat→Nat→Nat
 | 0,_,_,a=>a%n
 | k+1,b,e,a=>pwm n k (b*b%n) (e/2) (if e%2=1 then a*b%n else a)
theorem TS (n:Nat):∀ (k b e a:Nat),e<2^k→pwm n k b e a=(a*b^e)%n
 | 0,b,e,a,h=>by
  obtain rfl:e=0:=by simpa using h
  simp [pwm]
 | k+1,b,e,a,h=>by
  have h2:e/2<2^k:=by rw [Nat.pow_succ] at h;omega
  show pwm n k (b*b%n) (e/2) _=_
  rw [TS n k _ _ _ h2]
  have hb:(b*b%n)^(e/2)%n=(b^(2*(e/2)))%n:=by rw [← Nat.pow_mod,Nat.pow_mul,Nat.pow_two]
  rcases Nat.mod_two_eq_zero_or_one e with h0 | h0
  · have e1:e=2*(e/2):=by omega
    simp only [h0,Nat.zero_ne_one,if_false]
    rw [Nat.mul_mod,hb,← Nat.mul_mod,← e1]
  · have e1:e=2*(e/2)+1:=by omega
    simp only [h0,if_true]
    rw [Nat.mul_mod,hb,Nat.mod_mod,← Nat.mul_mod]
    conv=>rhs;rw [e1,Nat.pow_succ,Nat.mul_comm (b^(2*(e/2))) b,← Nat.mul_assoc]
def anY:List Nat→Prop
 | []=>True
 | q::l=>Prm q∧anY l
theorem Ql:∀ {l:List Nat},anY l→∀ q∈l,Prm q
 | _::_,h,q,hq=>by
  rcases List.mem_cons.1 hq with rfl | hq
  · exact h.1
  · exact Ql h.2 q hq
def ad4 (n g:Nat) (l:List Nat):Bool:=Nat.ble 2 n&&Nat.beq (l.foldr (·*·) 1) (n-1)&&Nat.blt n (2^128)&&Nat.beq (pwm n 128 g (n-1) 1) 1&&l.all (fun q=>!(Nat.beq (pwm n 128 g ((n-1)/q) 1) 1))
theorem dW {n g:Nat} {l:List Nat} (h:ad4 n g l=true) (hp:anY l):Cert n g l:=by
 unfold ad4 at h
 simp only [Bool.and_eq_true,Nat.ble_eq,Nat.blt_eq,List.all_eq_true,Bool.not_eq_true'] at h
 obtain ⟨⟨⟨⟨h1,h2⟩,h3⟩,h4⟩,h5⟩:=h
 refine ⟨h1,Nat.eq_of_beq_eq_true h2,Ql hp,?_,fun q hq he=>?_⟩
 · rw [TS n 128 g (n-1) 1 (by omega),Nat.one_mul] at h4;exact Nat.eq_of_beq_eq_true h4
 · have h6:=h5 q hq
   have hle:(n-1)/q≤n-1:=Nat.div_le_self _ _
   rw [TS n 128 g _ 1 (by omega),Nat.one_mul,he] at h6
   cases h6
set_option maxRecDepth 100000
theorem jv:Cert 2 1 []:=dW (by kernel_rfl) trivial
theorem aiA:Cert 65537 3 [2,2,2,2,2,2,2,2,2,2,2,2,2,2,2,2]:=dW (by kernel_rfl) ⟨jv.dM,jv.dM,jv.dM,jv.dM,jv.dM,jv.dM,jv.dM,jv.dM,jv.dM,jv.dM,jv.dM,jv.dM,jv.dM,jv.dM,jv.dM,jv.dM,trivial⟩
theorem wX:Cert 3 2 [2]:=dW (by kernel_rfl) ⟨jv.dM,trivial⟩
theorem TT:Cert 7 3 [2,3]:=dW (by kernel_rfl) ⟨jv.dM,wX.dM,trivial⟩
theorem Zr:Cert 5 2 [2,2]:=dW (by kernel_rfl) ⟨jv.dM,jv.dM,trivial⟩
theorem IW:Cert 11 2 [2,5]:=dW (by kernel_rfl) ⟨jv.dM,Zr.dM,trivial⟩
theorem akH:Cert 331 3 [2,3,5,11]:=dW (by kernel_rfl) ⟨jv.dM,wX.dM,Zr.dM,IW.dM,trivial⟩
theorem akI:Cert 151 6 [2,3,5,5]:=dW (by kernel_rfl) ⟨jv.dM,wX.dM,Zr.dM,Zr.dM,trivial⟩
theorem anZ:Cert 31 3 [2,3,5]:=dW (by kernel_rfl) ⟨jv.dM,wX.dM,Zr.dM,trivial⟩
theorem Nw:Cert 2147483647 7 [2,3,3,7,11,31,151,331]:=dW (by kernel_rfl) ⟨jv.dM,wX.dM,wX.dM,TT.dM,IW.dM,anZ.dM,akI.dM,akH.dM,trivial⟩
theorem az3:Cert 41 6 [2,2,2,5]:=dW (by kernel_rfl) ⟨jv.dM,jv.dM,jv.dM,Zr.dM,trivial⟩
theorem an0:Cert 1321 13 [2,2,2,3,5,11]:=dW (by kernel_rfl) ⟨jv.dM,jv.dM,jv.dM,wX.dM,Zr.dM,IW.dM,trivial⟩
theorem az4:Cert 13 2 [2,2,3]:=dW (by kernel_rfl) ⟨jv.dM,jv.dM,wX.dM,trivial⟩
theorem az5:Cert 61 2 [2,2,3,5]:=dW (by kernel_rfl) ⟨jv.dM,jv.dM,wX.dM,Zr.dM,trivial⟩
theorem xz:Cert 2305843009213693951 37 [2,3,3,5,5,7,11,13,31,41,61,151,331,1321]:=dW (by kernel_rfl) ⟨jv.dM,wX.dM,wX.dM,Zr.dM,Zr.dM,TT.dM,IW.dM,az4.dM,anZ.dM,az3.dM,az5.dM,akI.dM,akH.dM,an0.dM,trivial⟩
theorem aui:Cert 353 3 [2,2,2,2,2,11]:=dW (by kernel_rfl) ⟨jv.dM,jv.dM,jv.dM,jv.dM,jv.dM,IW.dM,trivial⟩
theorem an1:Cert 2113 5 [2,2,2,2,2,2,3,11]:=dW (by kernel_rfl) ⟨jv.dM,jv.dM,jv.dM,jv.dM,jv.dM,jv.dM,wX.dM,IW.dM,trivial⟩
theorem auj:Cert 683 5 [2,11,31]:=dW (by kernel_rfl) ⟨jv.dM,IW.dM,anZ.dM,trivial⟩
theorem auk:Cert 397 5 [2,2,3,3,11]:=dW (by kernel_rfl) ⟨jv.dM,jv.dM,wX.dM,wX.dM,IW.dM,trivial⟩
theorem aul:Cert 17 3 [2,2,2,2]:=dW (by kernel_rfl) ⟨jv.dM,jv.dM,jv.dM,jv.dM,trivial⟩
theorem az6:Cert 29 2 [2,2,7]:=dW (by kernel_rfl) ⟨jv.dM,jv.dM,TT.dM,trivial⟩
theorem an2:Cert 1451 2 [2,5,5,29]:=dW (by kernel_rfl) ⟨jv.dM,Zr.dM,Zr.dM,az6.dM,trivial⟩
theorem an3:Cert 8707 5 [2,3,1451]:=dW (by kernel_rfl) ⟨jv.dM,wX.dM,an2.dM,trivial⟩
theorem aum:Cert 239 7 [2,7,17]:=dW (by kernel_rfl) ⟨jv.dM,TT.dM,aul.dM,trivial⟩
theorem an4:Cert 1913 3 [2,2,2,239]:=dW (by kernel_rfl) ⟨jv.dM,jv.dM,jv.dM,aum.dM,trivial⟩
theorem Ny:Cert 2931542417 3 [2,2,2,2,11,1913,8707]:=dW (by kernel_rfl) ⟨jv.dM,jv.dM,jv.dM,jv.dM,IW.dM,an4.dM,an3.dM,trivial⟩
theorem an5:Cert 23 5 [2,11]:=dW (by kernel_rfl) ⟨jv.dM,IW.dM,trivial⟩
theorem az7:Cert 89 3 [2,2,2,11]:=dW (by kernel_rfl) ⟨jv.dM,jv.dM,jv.dM,IW.dM,trivial⟩
theorem qF:Cert 618970019642690137449562111 3 [2,3,5,17,23,89,353,397,683,2113,2931542417]:=dW (by kernel_rfl) ⟨jv.dM,wX.dM,Zr.dM,aul.dM,an5.dM,az7.dM,aui.dM,auk.dM,auj.dM,an1.dM,Ny.dM,trivial⟩
theorem aiB:Cert 92737 5 [2,2,2,2,2,2,3,3,7,23]:=dW (by kernel_rfl) ⟨jv.dM,jv.dM,jv.dM,jv.dM,jv.dM,jv.dM,wX.dM,wX.dM,TT.dM,an5.dM,trivial⟩
theorem an6:Cert 73 5 [2,2,2,3,3]:=dW (by kernel_rfl) ⟨jv.dM,jv.dM,jv.dM,wX.dM,wX.dM,trivial⟩
theorem aun:Cert 19 2 [2,3,3]:=dW (by kernel_rfl) ⟨jv.dM,wX.dM,wX.dM,trivial⟩
theorem ad5:Cert 174763 17 [2,3,3,7,19,73]:=dW (by kernel_rfl) ⟨jv.dM,wX.dM,wX.dM,TT.dM,aun.dM,an6.dM,trivial⟩
theorem ad6:Cert 699053 2 [2,2,174763]:=dW (by kernel_rfl) ⟨jv.dM,jv.dM,ad5.dM,trivial⟩
theorem Kv:Cert 77158673929 11 [2,2,2,3,3,3,7,73,699053]:=dW (by kernel_rfl) ⟨jv.dM,jv.dM,jv.dM,wX.dM,wX.dM,wX.dM,TT.dM,an6.dM,ad6.dM,trivial⟩
theorem auo:Cert 43 3 [2,3,7]:=dW (by kernel_rfl) ⟨jv.dM,wX.dM,TT.dM,trivial⟩
theorem an7:Cert 5419 3 [2,3,3,7,43]:=dW (by kernel_rfl) ⟨jv.dM,wX.dM,wX.dM,TT.dM,auo.dM,trivial⟩
theorem aup:Cert 337 10 [2,2,2,2,3,7]:=dW (by kernel_rfl) ⟨jv.dM,jv.dM,jv.dM,jv.dM,wX.dM,TT.dM,trivial⟩
theorem an8:Cert 1289 6 [2,2,2,7,23]:=dW (by kernel_rfl) ⟨jv.dM,jv.dM,jv.dM,TT.dM,an5.dM,trivial⟩
theorem ad7:Cert 649657 5 [2,2,2,3,3,7,1289]:=dW (by kernel_rfl) ⟨jv.dM,jv.dM,jv.dM,wX.dM,wX.dM,TT.dM,an8.dM,trivial⟩
theorem auq:Cert 127 3 [2,3,3,7]:=dW (by kernel_rfl) ⟨jv.dM,wX.dM,wX.dM,TT.dM,trivial⟩
theorem lF:Cert 170141183460469231731687303715884105727 43 [2,3,3,3,7,7,19,43,73,127,337,5419,92737,649657,77158673929]:=dW (by kernel_rfl) ⟨jv.dM,wX.dM,wX.dM,wX.dM,TT.dM,TT.dM,aun.dM,auo.dM,an6.dM,auq.dM,aup.dM,an7.dM,aiB.dM,ad7.dM,Kv.dM,trivial⟩
end Go.Proofs.YtnilonnkcbkdmaaGreatDoor
namespace Go.Proofs.YtnilonnkcbkdmaaGreatDoor
open Go.RowKit
set_option linter.unusedVariables false
set_option maxHeartbeats 400000
theorem Bl {m:Nat} (h0:m≠0) (h1:m≠1):1%m=1:=Nat.mod_eq_of_lt (by omega)
theorem zg {a m:Nat} (hg:Nat.gcd a m=1) (h0:m≠0) (h1:m≠1):(a*((cf (quo (a%m) m) 1 0).1%((m:Nat):Int)).natAbs)%m=1:=by
 have e:=bez (a%m) m
 rw [iy hg] at e
 generalize (cf (quo (a%m) m) 1 0).1=u at *
 generalize (cf (quo (a%m) m) 0 1).1=v at *
 have hn:=Int.emod_nonneg u (show (m:Int)≠0 by omega)
 obtain ⟨x,hx⟩:=Int.eq_ofNat_of_zero_le hn
 rw [hx,Int.natAbs_natCast]
 have h2:(((a*x)%m:Nat):Int)=((1%m:Nat):Int):=by
  have e2:(((a*x)%m:Nat):Int)=((a:Int)*(x:Int))%(m:Int):=by simp
  have e3:((1%m:Nat):Int)=(1:Int)%(m:Int):=by simp
  have e4:((a%m:Nat):Int)=(a:Int)%(m:Int):=by simp
  rw [e2,e3,← hx,Int.mul_emod (a:Int) (u%(m:Int)) (m:Int),Int.emod_emod_of_dvd u (Int.dvd_refl _),← Int.mul_emod,show (1:Int)=u*((a%m:Nat):Int)+v*(m:Int) from e.symm,e4,Int.add_mul_emod_self_right,Int.mul_emod u ((a:Int)%(m:Int)) (m:Int),Int.emod_emod_of_dvd (a:Int) (Int.dvd_refl _),← Int.mul_emod,Int.mul_comm]
 have h3:=Int.ofNat.inj h2
 rw [h3];exact Bl h0 h1
theorem Bn {x y z m:Nat} (hy:y<m) (hz:z<m) (h1:(x*y)%m=1) (h2:(x*z)%m=1):y=z:=by
 have e1:(y*(x*z))%m=y:=by rw [Nat.mul_mod,h2,Nat.mul_one,Nat.mod_mod,Nat.mod_eq_of_lt hy]
 have e2:(z*(x*y))%m=z:=by rw [Nat.mul_mod,h1,Nat.mul_one,Nat.mod_mod,Nat.mod_eq_of_lt hz]
 exact e1.symm.trans ((congrArg (·%m) (show y*(x*z)=z*(x*y) by rw [Nat.mul_left_comm y x z,Nat.mul_left_comm z x y,Nat.mul_comm y z])).trans e2)
theorem Bo {x a m:Nat} (h:(a*x)%m=1):Nat.gcd x m=1:=by
 have h2:Nat.gcd x m∣(a*x)%m:=(Nat.dvd_mod_iff (Nat.gcd_dvd_right x m)).2 (Nat.dvd_trans (Nat.gcd_dvd_left x m) (Nat.dvd_mul_left x a))
 rw [h] at h2
 exact Nat.dvd_one.1 h2
end Go.Proofs.YtnilonnkcbkdmaaGreatDoor
namespace Go.Proofs.YtnilonnkcbkdmaaGreatDoor
set_option linter.unusedVariables false
set_option maxHeartbeats 400000
theorem TU {p g:Nat} {l:List Nat} (c:Cert p g l) {a:Nat} (h:a%p≠0):a^(p-1)%p=1:=by
 have h2:=c.two
 rw [Nat.pow_mod]
 exact c.ad3 (Nat.pos_of_ne_zero h) (Nat.mod_lt _ (by omega))
theorem WB {p g:Nat} {l:List Nat} (c:Cert p g l) (a:Nat):a^p%p=a%p:=by
 have h2:=c.two
 by_cases h:a%p=0
 · rw [Nat.pow_mod,h,Nat.zero_pow (by omega),Nat.zero_mod]
 · have e:a^p=a^(p-1)*a:=by rw [← Nat.pow_succ];congr 1;omega
   rw [e,Nat.mul_mod,TU c h,Nat.one_mul,Nat.mod_mod]
theorem Nz {p g:Nat} {l:List Nat} (c:Cert p g l) {a:Nat} (h:a%p≠0):Nat.gcd a p=1:=by
 have h2:=c.two
 refine Bo (a:=a^(p-2)) ?_
 rw [← Nat.pow_succ,show (p-2).succ=p-1 from by omega]
 exact TU c h
theorem WC {p g:Nat} {l:List Nat} (c:Cert p g l) {a:Nat} (h:a%p≠0):((cf (quo (a%p) p) 1 0).1%((p:Nat):Int)).natAbs=a^(p-2)%p:=by
 have h2:=c.two
 have e:=zg (Nz c h) (by omega) (show p≠1 by omega)
 refine Bn (x:=a) (uH _ (by omega)) (Nat.mod_lt _ (by omega)) e ?_
 rw [Nat.mul_mod_mod,Nat.mul_comm,← Nat.pow_succ,show (p-2).succ=p-1 from by omega]
 exact TU c h
def Qm:Nat→Nat | 0=>1 | 1=>16 | 2=>31 | 3=>61 | 4=>89 | _=>127
def NA:Nat→Nat | 0=>2 | 1=>65537 | _=>0
def fpr (j:Nat):Nat:=if NA j=0 then 2^Qm j-1 else NA j
theorem ad8 (j:Nat) (hj:j<6):∃ g l,Cert (fpr j) g l:=by
 match j,hj with
 | 0,_=>exact ⟨_,_,jv⟩
 | 1,_=>exact ⟨_,_,aiA⟩
 | 2,_=>exact ⟨_,_,Nw⟩
 | 3,_=>exact ⟨_,_,xz⟩
 | 4,_=>exact ⟨_,_,qF⟩
 | 5,_=>exact ⟨_,_,lF⟩
end Go.Proofs.YtnilonnkcbkdmaaGreatDoor
namespace Go.Proofs.YtnilonnkcbkdmaaGreatDoor
open Go.RowKit
set_option linter.unusedVariables false
set_option linter.unusedSimpArgs false
set_option maxHeartbeats 400000
def fcs:List Value:=[.int .u32 1,.int .u32 2,.int .u32 16,.int .u32 65537,.int .u32 31,.int .u32 0,.int .u32 61,.int .u32 0,.int .u32 89,.int .u32 0,.int .u32 127,.int .u32 0]
theorem aiC (j:Nat) (hj:j<6):(fcs.drop (j*2)).take ([.int .u32 ((Qm j:Nat):Int),.int .u32 ((NA j:Nat):Int)]:List Value).length=[.int .u32 ((Qm j:Nat):Int),.int .u32 ((NA j:Nat):Int)]:=by
 match j,hj with
 | 0,_=>rfl
 | 1,_=>rfl
 | 2,_=>rfl
 | 3,_=>rfl
 | 4,_=>rfl
 | 5,_=>rfl
section
variable {L:List Oper} {S:World→Prop} {K:List (Nat × Value)→World→Prop} {i m d:Nat} {o:Oper} {x0 x1 x2 x3 x4 x5:Operand} {r:List (Bool × Nat × Nat)} {l:List (Nat × Value)} {w:World}
theorem an9 (ho:Pl.nth L i=some o) (hp:o.op = .buildSlice 49 6 #[(0,x0),(1,x1),(2,x2),(3,x3),(4,x4),(5,x5)]) (hd:o.dst=some d) (hg:Pl.gd L l o.guard=some true)
  (h0:Pl.ig l x0=some (.agg #[.int .u32 1,.int .u32 2])) (h1:Pl.ig l x1=some (.agg #[.int .u32 16,.int .u32 65537])) (h2:Pl.ig l x2=some (.agg #[.int .u32 31,.int .u32 0])) (h3:Pl.ig l x3=some (.agg #[.int .u32 61,.int .u32 0])) (h4:Pl.ig l x4=some (.agg #[.int .u32 89,.int .u32 0])) (h5:Pl.ig l x5=some (.agg #[.int .u32 127,.int .u32 0]))
  (hS:∀ Y,Ext w Y→S Y) (h:∀ N w',Ext w w'→Cb w' N 48 fcs→Pl.gY Tryz.prog L S K r ((d,.slice (some ⟨N,0,none⟩) 6 6)::l) w'):Pl.gY Tryz.prog L S K ((false,i,m)::r) l w:=by
 have e1:=(Ext.refl w).alloc (.cells fcs.toArray 48)
 refine Pl.kU (w':=w.alloc (.cells fcs.toArray 48)) (v:=.slice (some ⟨w.heap.size,0,none⟩) 6 6) ho hd hg (fun ρ hρ=>?_) (hS _ e1) (h _ _ e1 (Cb.new w _ _))
 unfold execOp;rw [hp]
 refine Pl.jy _ ?_
 have e0:=hρ.ig h0
 have e1:=hρ.ig h1
 have e2:=hρ.ig h2
 have e3:=hρ.ig h3
 have e4:=hρ.ig h4
 have e5:=hρ.ig h5
 simp only [List.map_toArray,List.map_cons,List.map_nil,fcs]
 go_simp
end
theorem az8 (N j:Nat) (h:j<6) (X:World):(Instr.indexAt 49 (.slice (some ⟨N,0,none⟩) 6 6) (.int .i64 ((j:Nat):Int))).run Tryz.prog X = .ok (.pointer (some ⟨N,j*2,none⟩)) X:=by
 have h1:(j:Int)<6:=by omega
 have h0:(0:Int)≤(j:Int):=by omega
 have e:(⟨N,0,none⟩:Addr).add (j*2)=⟨N,j*2,none⟩:=by rw [Addr.add_mid,Nat.zero_add]
 go_simp
theorem an' (N:Nat) (X:World):(Instr.indexAt 48 (.pointer (some ⟨N,0,none⟩)) (.int .i64 0)).run Tryz.prog X = .ok (.pointer (some ⟨N,0,none⟩)) X:=by go_simp
theorem NB (N:Nat) (X:World):(Instr.indexAt 48 (.pointer (some ⟨N,0,none⟩)) (.int .i64 1)).run Tryz.prog X = .ok (.pointer (some ⟨N,1,none⟩)) X:=by go_simp
theorem Cb.Qn {w:World} {N:Nat} {T:TypeId} {cs:List Value} {z:Int} (h:Cb w N T cs) {j:Nat} (hj:cs[j]?=some (.int .u32 z)):(Instr.loadAt 43 (.pointer (some ⟨N,j,none⟩))).run Tryz.prog w = .ok (.int .u32 z) w:=by
 have hc:=h.cellAt hj
 clear h hj
 go_simp
theorem aoa {n:Nat} (h:n<256) (X:World):(convert 5 3 (.int .u8 ((n:Nat):Int))).run Tryz.prog X = .ok (.int .i64 ((n:Nat):Int)) X:=by
 have:IntKind.i64.wrap ((n:Nat):Int)=((n:Nat):Int):=IntWalk.i64_in _ (by omega)
 go_simp
theorem aiD {n:Nat} (h:n<4294967296) (X:World):(convert 43 3 (.int .u32 ((n:Nat):Int))).run Tryz.prog X = .ok (.int .i64 ((n:Nat):Int)) X:=by
 have:IntKind.i64.wrap ((n:Nat):Int)=((n:Nat):Int):=IntWalk.i64_in _ (by omega)
 go_simp
theorem aob {x y:Operand} {n:Nat} (h:n<256) (X:World):(do eqGuard .rem 3 x y (.int .i64 ((n:Nat):Int)) (.int .i64 6);binOp .rem 3 (.int .i64 ((n:Nat):Int)) (.int .i64 6):Sem Value).run Tryz.prog X = .ok (.int .i64 ((n%6:Nat):Int)) X:=by
 have e:Int.tmod ((n:Nat):Int) 6=((n%6:Nat):Int):=by rw [Int.tmod_eq_emod_of_nonneg (by omega)];omega
 have:IntKind.i64.wrap ((n%6:Nat):Int)=((n%6:Nat):Int):=IntWalk.i64_in _ (by omega)
 go_simp
end Go.Proofs.YtnilonnkcbkdmaaGreatDoor
namespace Go.Proofs.YtnilonnkcbkdmaaGreatDoor
open Go.RowKit
set_option linter.unusedVariables false
set_option linter.unusedSimpArgs false
set_option maxHeartbeats 400000
namespace Qo
theorem qB (u:Array Value) (X:World):(callFunc 12 u).run Tryz.prog X = .ok (.enter 12 u) X:=Pl.enters Tryz.func12 (by kernel_rfl) rfl u X
theorem jh (u:Array Value) (X:World):(callFunc 13 u).run Tryz.prog X = .ok (.enter 13 u) X:=Pl.enters Tryz.func13 (by kernel_rfl) rfl u X
theorem gT (u:Array Value) (X:World):(callFunc 19 u).run Tryz.prog X = .ok (.enter 19 u) X:=Pl.enters Tryz.func19 (by kernel_rfl) rfl u X
theorem rG (u:Array Value) (X:World):(callFunc 24 u).run Tryz.prog X = .ok (.enter 24 u) X:=Pl.enters Tryz.func24 (by kernel_rfl) rfl u X
theorem uG (u:Array Value) (X:World):(callFunc 26 u).run Tryz.prog X = .ok (.enter 26 u) X:=Pl.enters Tryz.func26 (by kernel_rfl) rfl u X
theorem jH (u:Array Value) (X:World):(callFunc 36 u).run Tryz.prog X = .ok (.enter 36 u) X:=Pl.enters Tryz.func36 (by kernel_rfl) rfl u X
theorem aus (u:Array Value) (X:World):(callFunc 37 u).run Tryz.prog X = .ok (.enter 37 u) X:=Pl.enters Tryz.func37 (by kernel_rfl) rfl u X
theorem aoc (u:Array Value) (X:World):(callFunc 38 u).run Tryz.prog X = .ok (.enter 38 u) X:=Pl.enters Tryz.func38 (by kernel_rfl) rfl u X
theorem az9 (u:Array Value) (X:World):(callFunc 39 u).run Tryz.prog X = .ok (.enter 39 u) X:=Pl.enters Tryz.func39 (by kernel_rfl) rfl u X
end Qo
open Qo
theorem TV (j:Nat):Qm j≤127:=by unfold Qm;split<;>decide
theorem aod (j:Nat):Qm j<4294967296:=Nat.lt_of_le_of_lt (TV j) (by decide)
theorem ad9 (j:Nat):NA j<4294967296:=by unfold NA;split<;>decide
theorem Zt {x:Nat} (h:x=0):val [x]=0:=by subst h;rfl
theorem az' {j:Nat} (h:¬ NA j=0):val [NA j]=fpr j:=by unfold fpr;rw [if_neg h];simp [val]
theorem aAa {j:Nat} (h:NA j=0):1*2^Qm j-1=fpr j:=by unfold fpr;rw [if_pos h,Nat.one_mul]
theorem TW (k:Nat):1≤1*2^k:=by rw [Nat.one_mul];exact Nat.one_le_two_pow
theorem aoe (j:Nat):Sn (1*2^Qm j) 5:=Sn.of (by rw [Nat.one_mul];exact Nat.lt_of_le_of_lt (Nat.pow_le_pow_right (by decide) (TV j)) (by decide))
theorem aof {j p:Nat} (hj:j<6) (h:fpr j=p):Sn p 4:=by
 subst h
 refine Sn.of ?_
 match j,hj with
 | 0,_=>decide
 | 1,_=>decide
 | 2,_=>decide
 | 3,_=>decide
 | 4,_=>decide
 | 5,_=>decide
set_option maxRecDepth 100000 in
set_option maxHeartbeats 4000000 in
theorem Qp (w:World) (r0:Value) (xa:List Nat) (u0:U w r0 xa) (n:Nat) (hn:n<256) (a p g:Nat) (l:List Nat) (da:dG xa 8=a) (hla:Sn a 8) (hj:n%6<6) (hp:fpr (n%6)=p) (c:Cert p g l) (hlp:Sn p 4) (hp0:p≠0) :
  Calls Tryz.prog 10 #[r0,.int .u8 ((n:Nat):Int)] w fun e w'=>e = .returned (.bool true)∧Ext w w':=by
 refine Pl.aV (n:=115) (vs:=[r0,.int .u8 ((n:Nat):Int)]) Tryz.func10 rfl (by kernel_rfl) (by simp) ?_
 refine Pl.az ?_
 refine Pl.ay (by kernel_rfl) ?_
 refine Pl.aj trivial rfl rfl rfl rfl rfl ?_
 refine Pl.ak ?_
 refine Pl.az ?_
 refine Pl.ay (by kernel_rfl) ?_
 refine Pl.aA rfl rfl rfl rfl rfl qB ?_
 refine Calls.mono (pK _) ?_
 rintro e w1 ⟨rfl,hB1⟩
 refine ⟨_,rfl,trivial,?_⟩
 refine Pl.aj trivial rfl rfl rfl rfl rfl ?_
 refine Pl.ak ?_
 refine Pl.az ?_
 refine Pl.ay (by kernel_rfl) ?_
 refine Pl.ah trivial rfl rfl rfl rfl rfl ?_
 have jI:=U.below u0 hB1
 refine Pl.aA rfl rfl rfl rfl rfl jh ?_
 refine Calls.mono (dR _ _ xa 8 jI (by decide) (by decide) a da) ?_
 rintro e w2 ⟨jm,rfl,bn,hB2⟩
 refine ⟨_,rfl,trivial,?_⟩
 refine Pl.aj trivial rfl rfl rfl rfl rfl ?_
 refine Pl.ak ?_
 refine Pl.az ?_
 refine Pl.ay (by kernel_rfl) ?_
 refine Pl.dV (v:=.agg #[.int .u32 1,.int .u32 2]) trivial rfl rfl rfl (fun ρ hρ X _=>by have e1:=hρ.const;simp [go_sem,e1]) ?_
 refine Pl.dV (v:=.agg #[.int .u32 16,.int .u32 65537]) trivial rfl rfl rfl (fun ρ hρ X _=>by have e1:=hρ.const;simp [go_sem,e1]) ?_
 refine Pl.dV (v:=.agg #[.int .u32 31,.int .u32 0]) trivial rfl rfl rfl (fun ρ hρ X _=>by have e1:=hρ.const;simp [go_sem,e1]) ?_
 refine Pl.dV (v:=.agg #[.int .u32 61,.int .u32 0]) trivial rfl rfl rfl (fun ρ hρ X _=>by have e1:=hρ.const;simp [go_sem,e1]) ?_
 refine Pl.dV (v:=.agg #[.int .u32 89,.int .u32 0]) trivial rfl rfl rfl (fun ρ hρ X _=>by have e1:=hρ.const;simp [go_sem,e1]) ?_
 refine Pl.dV (v:=.agg #[.int .u32 127,.int .u32 0]) trivial rfl rfl rfl (fun ρ hρ X _=>by have e1:=hρ.const;simp [go_sem,e1]) ?_
 refine an9 rfl rfl rfl rfl rfl rfl rfl rfl rfl rfl (fun _ _=>trivial) ?_
 intro N2 w3 hB3 kf
 refine Pl.aj trivial rfl rfl rfl rfl rfl ?_
 refine Pl.ak ?_
 refine Pl.az ?_
 refine Pl.ay (by kernel_rfl) ?_
 refine Pl.ah trivial rfl rfl rfl rfl rfl ?_
 refine Pl.ah trivial rfl rfl rfl rfl rfl ?_
 refine mI (v:=(.int .i64 ((n:Nat):Int))) trivial rfl rfl rfl rfl rfl (fun X=>aoa hn X) ?_
 refine Pl.aI (v:=(.int .i64 ((n%6:Nat):Int))) trivial rfl rfl rfl rfl rfl rfl (fun X=>aob hn X) ?_
 refine aP trivial rfl rfl rfl rfl rfl rfl (az8 _ (n%6) hj) ?_
 refine Pl.aH trivial rfl rfl rfl rfl rfl (Cb.bJ kf (n%6*2) [.int .u32 ((Qm (n%6):Nat):Int),.int .u32 ((NA (n%6):Nat):Int)] (aiC _ hj) _ _ rfl rfl (by kernel_rfl)) ?_
 refine eH rfl rfl rfl rfl (z:=.agg ([.int .u32 0,.int .u32 0]:List Value).toArray) (by kernel_rfl) (fun _ _=>trivial) ?_
 intro N3 w4 hB4 hN7 k7
 replace k7:Cb w4 N3 48 [.int .u32 0,.int .u32 0]:=k7
 refine fT (new:=[.int .u32 ((Qm (n%6):Nat):Int),.int .u32 ((NA (n%6):Nat):Int)]) k7 rfl rfl rfl rfl rfl rfl (by kernel_rfl) rfl (by simp [Value.oneCell']) trivial ?_
 have bH:=((Ext.refl w3).below hB4).uJ hN7 (([.int .u32 ((Qm (n%6):Nat):Int),.int .u32 ((NA (n%6):Nat):Int)]:List Value).toArray)
 replace k7:=Cb.put k7 [.int .u32 ((Qm (n%6):Nat):Int),.int .u32 ((NA (n%6):Nat):Int)]
 generalize w4.setRow N3 ([.int .u32 ((Qm (n%6):Nat):Int),.int .u32 ((NA (n%6):Nat):Int)]:List Value).toArray=w5 at *
 refine Pl.ak ?_
 refine Pl.az ?_
 by_cases h1:NA (n%6)=0
 · refine Pl.ay (by kernel_rfl) ?_
   refine aP trivial rfl rfl rfl rfl rfl rfl (NB _) ?_
   refine Pl.aH trivial rfl rfl rfl rfl rfl (Cb.Qn (j:=1) k7 rfl) ?_
   refine cO (n:=NA (n%6)) (ad9 _) rfl rfl rfl rfl rfl (fun _ _=>trivial) ?_
   intro aAb w6 aZ aea
   refine Pl.aA rfl rfl rfl rfl rfl aus ?_
   refine Calls.mono (iq _ _ [NA (n%6)] aea (by show 1≤_;decide) 0 (Zt h1)) ?_
   rintro e w7 ⟨rE,rfl,mY,bW⟩
   refine ⟨_,rfl,trivial,?_⟩
   refine Pl.aj trivial rfl rfl rfl rfl rfl ?_
   refine Pl.ak ?_
   refine Pl.az ?_
   refine Pl.az ?_
   refine Pl.ay (by kernel_rfl) ?_
   refine aP trivial rfl rfl rfl rfl rfl rfl (NB _) ?_
   refine Pl.aH trivial rfl rfl rfl rfl rfl (Cb.Qn (j:=1) (Cb.ext k7 (Ext.below aZ bW)) rfl) ?_
   refine Pl.aI (v:=(.bool true)) trivial rfl rfl rfl rfl rfl rfl (fun X=>akG (by simp [h1]) X) ?_
   refine Pl.ak ?_
   refine Pl.dh rfl ?_
   refine Pl.az ?_
   refine Pl.ay (by kernel_rfl) ?_
   refine cO (n:=1) (by decide) rfl rfl rfl rfl rfl (fun _ _=>trivial) ?_
   intro aGI w8 cB aut
   have aAc:=U.kV (by decide) (by decide) aut
   refine aP trivial rfl rfl rfl rfl rfl rfl (an' _) ?_
   refine Pl.aH trivial rfl rfl rfl rfl rfl (Cb.Qn (j:=0) (Cb.ext k7 (Ext.below aZ (Ext.below bW cB))) rfl) ?_
   refine mI (v:=(.int .i64 ((Qm (n%6):Nat):Int))) trivial rfl rfl rfl rfl rfl (fun X=>aiD (aod _) X) ?_
   refine Pl.aA rfl rfl rfl rfl rfl az9 ?_
   refine Calls.mono (anX _ _ 1 (Qm (n%6)) aAc (Nat.le_trans (TV _) (by decide)) (Sn.le (Sn.small (n:=1) (K:=1) (by decide)) (by decide)) (1*2^Qm (n%6)) rfl) ?_
   rintro e w9 ⟨Nj,rfl,xu,eP⟩
   refine ⟨_,rfl,trivial,?_⟩
   refine cO (n:=1) (by decide) rfl rfl rfl rfl rfl (fun _ _=>trivial) ?_
   intro auu xN bY Qq
   have TY:=U.kV (by decide) (by decide) Qq
   have aeb:=Un.below xu bY
   refine Pl.aA rfl rfl rfl rfl rfl aoc ?_
   refine Calls.mono (TR _ _ _ (1*2^Qm (n%6)) 1 aeb TY (Sn.le (aoe _) (by decide)) (Sn.le (Sn.small (n:=1) (K:=1) (by decide)) (by decide)) true (decide_eq_true (TW _)) p ((aAa h1).trans hp)) ?_
   rintro e AU ⟨alU,rfl,Kh,bX⟩
   refine ⟨_,rfl,trivial,?_⟩
   refine Pl.ah trivial rfl rfl rfl rfl rfl ?_
   refine Pl.aB trivial rfl rfl rfl rfl rfl rfl ?_
   refine Pl.aB trivial rfl rfl rfl rfl rfl rfl ?_
   refine Pl.aj trivial rfl rfl rfl rfl rfl ?_
   refine Pl.aj trivial rfl rfl rfl rfl rfl ?_
   refine Pl.ak ?_
   refine Pl.ay (by kernel_rfl) ?_
   refine Pl.ah trivial rfl rfl rfl rfl rfl ?_
   refine Pl.aj trivial rfl rfl rfl rfl rfl ?_
   refine Pl.ak ?_
   refine Pl.az ?_
   refine Pl.ay (by kernel_rfl) ?_
   refine Pl.ah trivial rfl rfl rfl rfl rfl ?_
   refine Pl.ah trivial rfl rfl rfl rfl rfl ?_
   refine Pl.ah trivial rfl rfl rfl rfl rfl ?_
   have FO:=Un.below bn (Ext.below hB3 (Ext.below bH (Ext.below aZ (Ext.below bW (Ext.below cB (Ext.below eP (Ext.below bY bX)))))))
   refine Pl.aA rfl rfl rfl rfl rfl uG ?_
   refine Calls.mono (jF _ _ _ _ a p p FO Kh Kh (Sn.le hla (by decide)) (Sn.le hlp (by decide)) (Sn.le hlp (by decide)) hp0) ?_
   rintro e Kq ⟨zQ,rfl,qw,eO⟩
   refine ⟨_,rfl,trivial,?_⟩
   have pJ:Sn (a^p%p) 4:=Sn.mod hlp hp0
   refine Pl.ah trivial rfl rfl rfl rfl rfl ?_
   refine Pl.aB trivial rfl rfl rfl rfl rfl rfl ?_
   refine Pl.aB trivial rfl rfl rfl rfl rfl rfl ?_
   refine Pl.aj trivial rfl rfl rfl rfl rfl ?_
   refine Pl.aj trivial rfl rfl rfl rfl rfl ?_
   refine Pl.ak ?_
   refine Pl.az ?_
   refine Pl.ay (by kernel_rfl) ?_
   refine Pl.ah trivial rfl rfl rfl rfl rfl ?_
   refine Pl.ah trivial rfl rfl rfl rfl rfl ?_
   have CF:=Un.below FO eO
   have Qr:=Un.below Kh eO
   refine Pl.aA rfl rfl rfl rfl rfl jH ?_
   refine Calls.mono (jU _ _ _ a p _ _ CF Qr (Sn.le hla (by decide)) (Sn.le hlp (by decide)) hp0 rfl rfl) ?_
   rintro e JZ ⟨⟨zP,tO,rfl,pI,og⟩,dP⟩
   refine ⟨_,rfl,trivial,?_⟩
   have lY:Sn (a/p) 8:=Sn.div hla
   have tQ:Sn (a%p) 4:=Sn.mod hlp hp0
   refine Pl.ah trivial rfl rfl rfl rfl rfl ?_
   refine Pl.aB trivial rfl rfl rfl rfl rfl rfl ?_
   refine Pl.aB trivial rfl rfl rfl rfl rfl rfl ?_
   refine Pl.aB trivial rfl rfl rfl rfl rfl rfl ?_
   refine Pl.aj trivial rfl rfl rfl rfl rfl ?_
   refine Pl.aj trivial rfl rfl rfl rfl rfl ?_
   refine Pl.aj trivial rfl rfl rfl rfl rfl ?_
   refine Pl.ak ?_
   refine Pl.az ?_
   refine Pl.az ?_
   refine Pl.ay (by kernel_rfl) ?_
   refine Pl.ah trivial rfl rfl rfl rfl rfl ?_
   refine Pl.aI (v:=(.bool false)) trivial rfl rfl rfl rfl rfl rfl (fun X=>by go_simp) ?_
   refine Pl.ah trivial rfl rfl rfl rfl rfl ?_
   refine Pl.ah trivial rfl rfl rfl rfl rfl ?_
   refine Pl.ah trivial rfl rfl rfl rfl rfl ?_
   have Zu:=Un.below qw dP
   refine Pl.aA rfl rfl rfl rfl rfl gT ?_
   refine Calls.mono (eZ _ _ _ (a^p%p) (a%p) Zu og true (decide_eq_true (WB c a))) ?_
   rintro e Ie ⟨rfl,dO⟩
   refine ⟨_,rfl,trivial,?_⟩
   refine Pl.nY (v:=(.bool false)) trivial rfl rfl rfl rfl rfl (fun X=>rfl) ?_
   refine Pl.aO trivial rfl rfl rfl rfl rfl rfl ?_
   refine Pl.ak ?_
   refine Pl.bD rfl ?_
   refine Pl.bN ?_
   refine Pl.az ?_
   refine Pl.az ?_
   by_cases hr:a%p=0
   · refine Pl.ay (by kernel_rfl) ?_
     refine Pl.ah trivial rfl rfl rfl rfl rfl ?_
     obtain ⟨auv,auw,rfl,-⟩:=Un.sh og
     refine bG trivial rfl rfl rfl rfl rfl ?_
     refine Pl.aI (v:=(.bool true)) trivial rfl rfl rfl rfl rfl rfl (fun X=>fV (dN.trans (decide_eq_true hr)) X) ?_
     refine Pl.ak ?_
     refine Pl.dh rfl ?_
     refine Pl.az ?_
     refine Pl.ay (by kernel_rfl) ?_
     refine Pl.ah trivial rfl rfl rfl rfl rfl ?_
     refine Pl.aj trivial rfl rfl rfl rfl rfl ?_
     refine Pl.ak ?_
     refine Pl.bU rfl rfl ?_
     exact ⟨rfl,(Ext.below hB1 (Ext.below hB2 (Ext.below hB3 (Ext.below bH (Ext.below aZ (Ext.below bW (Ext.below cB (Ext.below eP (Ext.below bY (Ext.below bX (Ext.below eO (Ext.below dP dO))))))))))))⟩
   · refine Pl.ay (by kernel_rfl) ?_
     refine Pl.ah trivial rfl rfl rfl rfl rfl ?_
     obtain ⟨auv,auw,rfl,-⟩:=Un.sh og
     refine bG trivial rfl rfl rfl rfl rfl ?_
     refine Pl.aI (v:=(.bool false)) trivial rfl rfl rfl rfl rfl rfl (fun X=>fV (dN.trans (decide_eq_false hr)) X) ?_
     refine Pl.ak ?_
     refine Pl.bD rfl ?_
     refine Pl.bN ?_
     refine Pl.az ?_
     refine Pl.ay (by kernel_rfl) ?_
     refine Pl.ah trivial rfl rfl rfl rfl rfl ?_
     refine cO (n:=2) (by decide) rfl rfl rfl rfl rfl (fun _ _=>trivial) ?_
     intro aC8 EA dX aog
     have auy:=U.kV (by decide) (by decide) aog
     have Qt:=Un.below Qr (Ext.below dP (Ext.below dO dX))
     refine Pl.aA rfl rfl rfl rfl rfl aoc ?_
     refine Calls.mono (TR _ _ _ p 2 Qt auy (Sn.le hlp (by decide)) (Sn.le (Sn.small (n:=2) (K:=1) (by decide)) (by decide)) true (decide_eq_true c.two) (p-2) rfl) ?_
     rintro e w16 ⟨Qd,rfl,II,iF⟩
     refine ⟨_,rfl,trivial,?_⟩
     refine Pl.ah trivial rfl rfl rfl rfl rfl ?_
     refine Pl.aB trivial rfl rfl rfl rfl rfl rfl ?_
     refine Pl.aB trivial rfl rfl rfl rfl rfl rfl ?_
     refine Pl.aj trivial rfl rfl rfl rfl rfl ?_
     refine Pl.aj trivial rfl rfl rfl rfl rfl ?_
     refine Pl.ak ?_
     refine Pl.az ?_
     refine Pl.ay (by kernel_rfl) ?_
     refine Pl.ah trivial rfl rfl rfl rfl rfl ?_
     refine Pl.ah trivial rfl rfl rfl rfl rfl ?_
     have WE:=Un.below CF (Ext.below dP (Ext.below dO (Ext.below dX iF)))
     have Qu:=Un.below Qt iF
     refine Pl.aA rfl rfl rfl rfl rfl rG ?_
     refine Calls.mono (jO _ _ _ a p WE Qu (Sn.le hla (by decide)) (Sn.le hlp (by decide)) hp0 (iy (Nz c hr))) ?_
     rintro e Ww ⟨aC9,rfl,adl,fU⟩
     refine ⟨_,rfl,trivial,?_⟩
     have aC':Sn (((cf (quo (a%p) p) 1 0).1%((p:Nat):Int)).natAbs) 4:=oQ hlp hp0
     refine Pl.ah trivial rfl rfl rfl rfl rfl ?_
     refine Pl.aB trivial rfl rfl rfl rfl rfl rfl ?_
     refine Pl.aB trivial rfl rfl rfl rfl rfl rfl ?_
     refine Pl.aj trivial rfl rfl rfl rfl rfl ?_
     refine Pl.aj trivial rfl rfl rfl rfl rfl ?_
     refine Pl.ak ?_
     refine Pl.az ?_
     refine Pl.ay (by kernel_rfl) ?_
     refine Pl.ah trivial rfl rfl rfl rfl rfl ?_
     refine Pl.ah trivial rfl rfl rfl rfl rfl ?_
     refine Pl.ah trivial rfl rfl rfl rfl rfl ?_
     have FP:=Un.below WE fU
     have Zv:=Un.below II fU
     have aec:=Un.below Qu fU
     refine Pl.aA rfl rfl rfl rfl rfl uG ?_
     refine Calls.mono (jF _ _ _ _ a (p-2) p FP Zv aec (Sn.le hla (by decide)) (Sn.le (hlp.down (Nat.sub_le p 2)) (by decide)) (Sn.le hlp (by decide)) hp0) ?_
     rintro e w18 ⟨auz,rfl,aed,iQ⟩
     refine ⟨_,rfl,trivial,?_⟩
     have auA:Sn (a^(p-2)%p) 4:=Sn.mod hlp hp0
     refine Pl.ah trivial rfl rfl rfl rfl rfl ?_
     refine Pl.aB trivial rfl rfl rfl rfl rfl rfl ?_
     refine Pl.aB trivial rfl rfl rfl rfl rfl rfl ?_
     refine Pl.aj trivial rfl rfl rfl rfl rfl ?_
     refine Pl.aj trivial rfl rfl rfl rfl rfl ?_
     refine Pl.ak ?_
     refine Pl.az ?_
     refine Pl.ay (by kernel_rfl) ?_
     refine Pl.ah trivial rfl rfl rfl rfl rfl ?_
     refine Pl.aI (v:=(.bool true)) trivial rfl rfl rfl rfl rfl rfl (fun X=>by go_simp) ?_
     refine Pl.ah trivial rfl rfl rfl rfl rfl ?_
     refine Pl.ah trivial rfl rfl rfl rfl rfl ?_
     refine Pl.aI (v:=(.bool true)) trivial rfl rfl rfl rfl rfl rfl (fun X=>by go_simp) ?_
     refine Pl.aO trivial rfl rfl rfl rfl rfl rfl ?_
     refine Pl.ah trivial rfl rfl rfl rfl rfl ?_
     refine Pl.ah trivial rfl rfl rfl rfl rfl ?_
     refine Pl.ah trivial rfl rfl rfl rfl rfl ?_
     have Zw:=Un.below adl iQ
     refine Pl.aA rfl rfl rfl rfl rfl gT ?_
     refine Calls.mono (eZ _ _ _ (((cf (quo (a%p) p) 1 0).1%((p:Nat):Int)).natAbs) (a^(p-2)%p) Zw aed true (decide_eq_true (WC c hr))) ?_
     rintro e w19 ⟨rfl,je⟩
     refine ⟨_,rfl,trivial,?_⟩
     refine Pl.aO trivial rfl rfl rfl rfl rfl rfl ?_
     refine Pl.ah trivial rfl rfl rfl rfl rfl ?_
     refine Pl.ah trivial rfl rfl rfl rfl rfl ?_
     refine Pl.aO trivial rfl rfl rfl rfl rfl rfl ?_
     refine Pl.aj trivial rfl rfl rfl rfl rfl ?_
     refine Pl.ak ?_
     refine Pl.bU rfl rfl ?_
     exact ⟨rfl,(Ext.below hB1 (Ext.below hB2 (Ext.below hB3 (Ext.below bH (Ext.below aZ (Ext.below bW (Ext.below cB (Ext.below eP (Ext.below bY (Ext.below bX (Ext.below eO (Ext.below dP (Ext.below dO (Ext.below dX (Ext.below iF (Ext.below fU (Ext.below iQ je)))))))))))))))))⟩
 · refine Pl.ay (by kernel_rfl) ?_
   refine aP trivial rfl rfl rfl rfl rfl rfl (NB _) ?_
   refine Pl.aH trivial rfl rfl rfl rfl rfl (Cb.Qn (j:=1) k7 rfl) ?_
   refine cO (n:=NA (n%6)) (ad9 _) rfl rfl rfl rfl rfl (fun _ _=>trivial) ?_
   intro aAb w6 aZ aea
   refine Pl.aA rfl rfl rfl rfl rfl aus ?_
   refine Calls.mono (iq _ _ [NA (n%6)] aea (by show 1≤_;decide) p ((az' h1).trans hp)) ?_
   rintro e w7 ⟨rE,rfl,mY,bW⟩
   refine ⟨_,rfl,trivial,?_⟩
   refine Pl.aj trivial rfl rfl rfl rfl rfl ?_
   refine Pl.ak ?_
   refine Pl.az ?_
   refine Pl.az ?_
   refine Pl.ay (by kernel_rfl) ?_
   refine aP trivial rfl rfl rfl rfl rfl rfl (NB _) ?_
   refine Pl.aH trivial rfl rfl rfl rfl rfl (Cb.Qn (j:=1) (Cb.ext k7 (Ext.below aZ bW)) rfl) ?_
   refine Pl.aI (v:=(.bool false)) trivial rfl rfl rfl rfl rfl rfl (fun X=>akG (by simp [h1]) X) ?_
   refine Pl.ak ?_
   refine Pl.bD rfl ?_
   refine Pl.bN ?_
   refine Pl.az ?_
   refine Pl.ay (by kernel_rfl) ?_
   refine Pl.ah trivial rfl rfl rfl rfl rfl ?_
   refine Pl.ah trivial rfl rfl rfl rfl rfl ?_
   refine Pl.ah trivial rfl rfl rfl rfl rfl ?_
   have nP:=Un.below bn (Ext.below hB3 (Ext.below bH (Ext.below aZ bW)))
   refine Pl.aA rfl rfl rfl rfl rfl uG ?_
   refine Calls.mono (jF _ _ _ _ a p p nP mY mY (Sn.le hla (by decide)) (Sn.le hlp (by decide)) (Sn.le hlp (by decide)) hp0) ?_
   rintro e w8 ⟨Nj,rfl,xu,cB⟩
   refine ⟨_,rfl,trivial,?_⟩
   have zB:Sn (a^p%p) 4:=Sn.mod hlp hp0
   refine Pl.ah trivial rfl rfl rfl rfl rfl ?_
   refine Pl.aB trivial rfl rfl rfl rfl rfl rfl ?_
   refine Pl.aB trivial rfl rfl rfl rfl rfl rfl ?_
   refine Pl.aj trivial rfl rfl rfl rfl rfl ?_
   refine Pl.aj trivial rfl rfl rfl rfl rfl ?_
   refine Pl.ak ?_
   refine Pl.az ?_
   refine Pl.ay (by kernel_rfl) ?_
   refine Pl.ah trivial rfl rfl rfl rfl rfl ?_
   refine Pl.ah trivial rfl rfl rfl rfl rfl ?_
   have Dq:=Un.below nP cB
   have nM:=Un.below mY cB
   refine Pl.aA rfl rfl rfl rfl rfl jH ?_
   refine Calls.mono (jU _ _ _ a p _ _ Dq nM (Sn.le hla (by decide)) (Sn.le hlp (by decide)) hp0 rfl rfl) ?_
   rintro e w9 ⟨⟨rY,Pe,rfl,kI,wQ⟩,eP⟩
   refine ⟨_,rfl,trivial,?_⟩
   have dZ:Sn (a/p) 8:=Sn.div hla
   have qp:Sn (a%p) 4:=Sn.mod hlp hp0
   refine Pl.ah trivial rfl rfl rfl rfl rfl ?_
   refine Pl.aB trivial rfl rfl rfl rfl rfl rfl ?_
   refine Pl.aB trivial rfl rfl rfl rfl rfl rfl ?_
   refine Pl.aB trivial rfl rfl rfl rfl rfl rfl ?_
   refine Pl.aj trivial rfl rfl rfl rfl rfl ?_
   refine Pl.aj trivial rfl rfl rfl rfl rfl ?_
   refine Pl.aj trivial rfl rfl rfl rfl rfl ?_
   refine Pl.ak ?_
   refine Pl.az ?_
   refine Pl.az ?_
   refine Pl.ay (by kernel_rfl) ?_
   refine Pl.ah trivial rfl rfl rfl rfl rfl ?_
   refine Pl.aI (v:=(.bool false)) trivial rfl rfl rfl rfl rfl rfl (fun X=>by go_simp) ?_
   refine Pl.ah trivial rfl rfl rfl rfl rfl ?_
   refine Pl.ah trivial rfl rfl rfl rfl rfl ?_
   refine Pl.ah trivial rfl rfl rfl rfl rfl ?_
   have aiE:=Un.below xu eP
   refine Pl.aA rfl rfl rfl rfl rfl gT ?_
   refine Calls.mono (eZ _ _ _ (a^p%p) (a%p) aiE wQ true (decide_eq_true (WB c a))) ?_
   rintro e xN ⟨rfl,bY⟩
   refine ⟨_,rfl,trivial,?_⟩
   refine Pl.nY (v:=(.bool false)) trivial rfl rfl rfl rfl rfl (fun X=>rfl) ?_
   refine Pl.aO trivial rfl rfl rfl rfl rfl rfl ?_
   refine Pl.ak ?_
   refine Pl.bD rfl ?_
   refine Pl.bN ?_
   refine Pl.az ?_
   refine Pl.az ?_
   by_cases hr:a%p=0
   · refine Pl.ay (by kernel_rfl) ?_
     refine Pl.ah trivial rfl rfl rfl rfl rfl ?_
     obtain ⟨auB,auC,rfl,-⟩:=Un.sh wQ
     refine bG trivial rfl rfl rfl rfl rfl ?_
     refine Pl.aI (v:=(.bool true)) trivial rfl rfl rfl rfl rfl rfl (fun X=>fV (dN.trans (decide_eq_true hr)) X) ?_
     refine Pl.ak ?_
     refine Pl.dh rfl ?_
     refine Pl.az ?_
     refine Pl.ay (by kernel_rfl) ?_
     refine Pl.ah trivial rfl rfl rfl rfl rfl ?_
     refine Pl.aj trivial rfl rfl rfl rfl rfl ?_
     refine Pl.ak ?_
     refine Pl.bU rfl rfl ?_
     exact ⟨rfl,(Ext.below hB1 (Ext.below hB2 (Ext.below hB3 (Ext.below bH (Ext.below aZ (Ext.below bW (Ext.below cB (Ext.below eP bY))))))))⟩
   · refine Pl.ay (by kernel_rfl) ?_
     refine Pl.ah trivial rfl rfl rfl rfl rfl ?_
     obtain ⟨auB,auC,rfl,-⟩:=Un.sh wQ
     refine bG trivial rfl rfl rfl rfl rfl ?_
     refine Pl.aI (v:=(.bool false)) trivial rfl rfl rfl rfl rfl rfl (fun X=>fV (dN.trans (decide_eq_false hr)) X) ?_
     refine Pl.ak ?_
     refine Pl.bD rfl ?_
     refine Pl.bN ?_
     refine Pl.az ?_
     refine Pl.ay (by kernel_rfl) ?_
     refine Pl.ah trivial rfl rfl rfl rfl rfl ?_
     refine cO (n:=2) (by decide) rfl rfl rfl rfl rfl (fun _ _=>trivial) ?_
     intro aDa AU bX aoh
     have auD:=U.kV (by decide) (by decide) aoh
     have Qv:=Un.below nM (Ext.below eP (Ext.below bY bX))
     refine Pl.aA rfl rfl rfl rfl rfl aoc ?_
     refine Calls.mono (TR _ _ _ p 2 Qv auD (Sn.le hlp (by decide)) (Sn.le (Sn.small (n:=2) (K:=1) (by decide)) (by decide)) true (decide_eq_true c.two) (p-2) rfl) ?_
     rintro e Kq ⟨Gx,rfl,qx,eO⟩
     refine ⟨_,rfl,trivial,?_⟩
     refine Pl.ah trivial rfl rfl rfl rfl rfl ?_
     refine Pl.aB trivial rfl rfl rfl rfl rfl rfl ?_
     refine Pl.aB trivial rfl rfl rfl rfl rfl rfl ?_
     refine Pl.aj trivial rfl rfl rfl rfl rfl ?_
     refine Pl.aj trivial rfl rfl rfl rfl rfl ?_
     refine Pl.ak ?_
     refine Pl.az ?_
     refine Pl.ay (by kernel_rfl) ?_
     refine Pl.ah trivial rfl rfl rfl rfl rfl ?_
     refine Pl.ah trivial rfl rfl rfl rfl rfl ?_
     have CF:=Un.below Dq (Ext.below eP (Ext.below bY (Ext.below bX eO)))
     have Cx:=Un.below Qv eO
     refine Pl.aA rfl rfl rfl rfl rfl rG ?_
     refine Calls.mono (jO _ _ _ a p CF Cx (Sn.le hla (by decide)) (Sn.le hlp (by decide)) hp0 (iy (Nz c hr))) ?_
     rintro e JZ ⟨akD,rfl,Qe,dP⟩
     refine ⟨_,rfl,trivial,?_⟩
     have LD:Sn (((cf (quo (a%p) p) 1 0).1%((p:Nat):Int)).natAbs) 4:=oQ hlp hp0
     refine Pl.ah trivial rfl rfl rfl rfl rfl ?_
     refine Pl.aB trivial rfl rfl rfl rfl rfl rfl ?_
     refine Pl.aB trivial rfl rfl rfl rfl rfl rfl ?_
     refine Pl.aj trivial rfl rfl rfl rfl rfl ?_
     refine Pl.aj trivial rfl rfl rfl rfl rfl ?_
     refine Pl.ak ?_
     refine Pl.az ?_
     refine Pl.ay (by kernel_rfl) ?_
     refine Pl.ah trivial rfl rfl rfl rfl rfl ?_
     refine Pl.ah trivial rfl rfl rfl rfl rfl ?_
     refine Pl.ah trivial rfl rfl rfl rfl rfl ?_
     have aiF:=Un.below CF dP
     have Zx:=Un.below qx dP
     have oW:=Un.below Cx dP
     refine Pl.aA rfl rfl rfl rfl rfl uG ?_
     refine Calls.mono (jF _ _ _ _ a (p-2) p aiF Zx oW (Sn.le hla (by decide)) (Sn.le (hlp.down (Nat.sub_le p 2)) (by decide)) (Sn.le hlp (by decide)) hp0) ?_
     rintro e Ie ⟨atQ,rfl,Wv,dO⟩
     refine ⟨_,rfl,trivial,?_⟩
     have atS:Sn (a^(p-2)%p) 4:=Sn.mod hlp hp0
     refine Pl.ah trivial rfl rfl rfl rfl rfl ?_
     refine Pl.aB trivial rfl rfl rfl rfl rfl rfl ?_
     refine Pl.aB trivial rfl rfl rfl rfl rfl rfl ?_
     refine Pl.aj trivial rfl rfl rfl rfl rfl ?_
     refine Pl.aj trivial rfl rfl rfl rfl rfl ?_
     refine Pl.ak ?_
     refine Pl.az ?_
     refine Pl.ay (by kernel_rfl) ?_
     refine Pl.ah trivial rfl rfl rfl rfl rfl ?_
     refine Pl.aI (v:=(.bool true)) trivial rfl rfl rfl rfl rfl rfl (fun X=>by go_simp) ?_
     refine Pl.ah trivial rfl rfl rfl rfl rfl ?_
     refine Pl.ah trivial rfl rfl rfl rfl rfl ?_
     refine Pl.aI (v:=(.bool true)) trivial rfl rfl rfl rfl rfl rfl (fun X=>by go_simp) ?_
     refine Pl.aO trivial rfl rfl rfl rfl rfl rfl ?_
     refine Pl.ah trivial rfl rfl rfl rfl rfl ?_
     refine Pl.ah trivial rfl rfl rfl rfl rfl ?_
     refine Pl.ah trivial rfl rfl rfl rfl rfl ?_
     have Zy:=Un.below Qe dO
     refine Pl.aA rfl rfl rfl rfl rfl gT ?_
     refine Calls.mono (eZ _ _ _ (((cf (quo (a%p) p) 1 0).1%((p:Nat):Int)).natAbs) (a^(p-2)%p) Zy Wv true (decide_eq_true (WC c hr))) ?_
     rintro e EA ⟨rfl,dX⟩
     refine ⟨_,rfl,trivial,?_⟩
     refine Pl.aO trivial rfl rfl rfl rfl rfl rfl ?_
     refine Pl.ah trivial rfl rfl rfl rfl rfl ?_
     refine Pl.ah trivial rfl rfl rfl rfl rfl ?_
     refine Pl.aO trivial rfl rfl rfl rfl rfl rfl ?_
     refine Pl.aj trivial rfl rfl rfl rfl rfl ?_
     refine Pl.ak ?_
     refine Pl.bU rfl rfl ?_
     exact ⟨rfl,(Ext.below hB1 (Ext.below hB2 (Ext.below hB3 (Ext.below bH (Ext.below aZ (Ext.below bW (Ext.below cB (Ext.below eP (Ext.below bY (Ext.below bX (Ext.below eO (Ext.below dP (Ext.below dO dX)))))))))))))⟩
theorem IX (w:World) (r0:Value) (xa:List Nat) (u0:U w r0 xa) (n:Nat) (hn:n<256) :
  Calls Tryz.prog 10 #[r0,.int .u8 ((n:Nat):Int)] w fun e w'=>e = .returned (.bool true)∧Ext w w':=by
 obtain ⟨a,da⟩:∃ a,dG xa 8=a:=⟨_,rfl⟩
 have hla:Sn a 8:=by rw [← da];exact iA (iE xa 8 u0.lim)
 have hj:n%6<6:=Nat.mod_lt _ (by decide)
 obtain ⟨p,hp⟩:∃ p,fpr (n%6)=p:=⟨_,rfl⟩
 obtain ⟨g,l,c⟩:=ad8 (n%6) hj
 rw [hp] at c
 have h2:=c.two
 exact Qp w r0 xa u0 n hn a p g l da hla hj hp c (aof hj hp) (by omega)
end Go.Proofs.YtnilonnkcbkdmaaGreatDoor
namespace Go.Proofs.YtnilonnkcbkdmaaGreatDoor
open Go.ChangeShapes Go.WideShapes Go.ChangeAt Go.RowKit
set_option linter.unusedVariables false
set_option maxHeartbeats 2000000
set_option maxRecDepth 100000 in
theorem D8 (os:Os) (started:os.Started) (H:Type) (enc:TypeId × Value→H) :
  ReturnsInHanded {} Tryz.checked os 10 .any (fun w args=>(Rows.gcdFermatSpec.pre enc Tryz.prog Tryz.f10 [] false w args∧laidMetH Tryz.prog gQ w)∧sizedMet enc Tryz.prog Tryz.f10 (OpenSpec.ofChange Rows.gcdFermatSpec) false w args)
   (Rows.gcdFermatSpec.post enc Tryz.prog Tryz.f10 false true false false):=by
 refine returnsInHanded_of_change_and (C:=Tryz.checked) (X:=fun w _=>laidMetH Tryz.prog gQ w) (fun _ _ _ hh h=>h.of_heap hh) own started (by kernel_rfl) Tryz.func10
  (ChangeSpec.witness_shaped (enc:=enc) (C:=Tryz.checked) (os:=os) (X:=fun w _=>laidMetH Tryz.prog gQ w) false (World.doorLaid Tryz.prog 400 os) #[.slice none 0 0,.int .u8 0] 8 rfl (World.shaped_of_RefB (by kernel_rfl) (by kernel_rfl)) (by kernel_rfl) (by kernel_rfl) (by kernel_rfl) (jf os _)) ?_
 intro W base args ds gs before hval0 hW _ _ hL _
 have hval:∀ (j:Nat) t v,Tryz.f10.params[j]?=some t→args[j]?=some v→Value.okWide Tryz.prog W .any base t v:=hval0
 have hW':=hW
 obtain ⟨p,q,qX,hV,rfl,hfz,hnd⟩:=hW
 have hlt:∀ x∈p++q,x.block<W.heap.size:=fun x hx=>hW'.lt x hx
 have hA:DataW.TrodAll enc Tryz.prog W 0 (fun _=>true) true Tryz.f10.params.toList args.toList ds p:=qX
 rw [Tryz.params10] at hA hval
 clear qX hval0
 obtain ⟨v0,vs0,d0,ds0,p0,q0,yu,rfl,rfl,h0,r0⟩:=trodAll_cons hA
 obtain ⟨v1,vs1,d1,ds1,p1,q1,mh,rfl,rfl,h1,r1⟩:=trodAll_cons r0
 obtain ⟨hn1,rfl,rfl⟩:=trodAll_nil r1
 subst hn1
 subst mh
 obtain rfl:args=#[v0,v1]:=by cases args;simp_all
 obtain ⟨rfl,rfl⟩:=trodVars_none hV
 obtain ⟨Tj,u0⟩:=dS (hval 0 22 v0 rfl rfl) h0 (fun x hx=>hlt x (by simp [hx]))
 obtain ⟨z1,rfl,rfl,rfl,hz1⟩:=open_int Tryz.underlying5 (hval 1 5 v1 rfl rfl) h1
 have hb1:=bounds_u8 hz1
 obtain ⟨n1,rfl⟩:=Int.eq_ofNat_of_zero_le (show 0≤z1 by omega)
 refine (IX W _ _ u0 n1 (by omega)).mono fun e W' ⟨he,hB⟩=>?_
 subst he
 exact ⟨_,rfl,jg hW' rfl (by rw [Tryz.params10];decide +kernel) rfl rfl rfl rfl hB⟩
theorem IY:Rows.GcdFermatSaid :=
 OpenClaim.holds_of_wide 10 Tryz.f10 rfl rfl rfl rfl rfl rfl rfl ⟨rfl,rfl,rfl,rfl,rfl⟩ rfl rfl rfl rfl rfl (by kernel_rfl) Tryz.func10 (by kernel_rfl)
  (of_decide_eq_true (by kernel_rfl)) (by unfold Func.isWrapper;first | (rw [if_pos (by decide +kernel)];kernel_rfl) | (rw [if_neg (by decide +kernel)];exact ⟨rfl,rfl⟩))
  (fun os started H enc _=>D8 os started H enc)
theorem gcdFermat_holds:Rows.GcdFermatCardSaid :=
 Claim7.holds_tied_plain_at .later [] [.wider] true Rows.gcdFermatCard.stood.harness false
  IY (fun _ h=>by cases h) (by kernel_rfl) (fun _ h=>by cases h) gcdFermat_row_tie rfl ⟨rfl,rfl⟩ (by kernel_rfl) rfl
  (fun f fn hf hfn=>by
   obtain rfl:f = 10 := Option.some.inj ((show Tryz.prog.funcNamed "ziggurat/zigguratlaw07.GcdFermat" = some 10 by kernel_rfl).symm.trans hf) |>.symm
   obtain rfl:fn=Tryz.f10 := (Option.some.inj (Tryz.func10.symm.trans hfn)).symm
   exact ⟨by kernel_rfl,fun j t ht=>by
    rw [Tryz.params10] at ht
    have hm:t∈[22,5]:=by simpa using Array.mem_of_getElem? ht
    have hall:([22,5].all fun u=>!Tryz.prog.wantsStandIn u)=true:=by kernel_rfl
    exact (show Tryz.prog.wantsStandIn t=false by simpa using List.all_eq_true.1 hall t hm)⟩)
  (by kernel_rfl)
end Go.Proofs.YtnilonnkcbkdmaaGreatDoor
