/- GcdModulo, and what it leans on beyond the base. -/
import Derived.Test.YtnilonnkcbkdmaaGreatDoorBac
import Derived.Test.YtnilonnkcbkdmaaGreatDoorBad
import Derived.Test.YtnilonnkcbkdmaaGreatDoorBai
import Derived.Test.YtnilonnkcbkdmaaGreatDoorBag
import Derived.Test.YtnilonnkcbkdmaaGreatDoorBah
import Derived.Test.YtnilonnkcbkdmaaGreatDoorBak
import Derived.Test.YtnilonnkcbkdmaaGreatDoorBao
import Derived.Test.YtnilonnkcbkdmaaGreatDoorBae
import Derived.Test.YtnilonnkcbkdmaaGreatDoorBap
import Derived.Test.YtnilonnkcbkdmaaGreatDoorBar
import Derived.Test.YtnilonnkcbkdmaaGreatDoorBas
import Derived.Test.YtnilonnkcbkdmaaGreatDoorBat
import Derived.Test.YtnilonnkcbkdmaaGreatDoorBab
import Derived.Test.YtnilonnkcbkdmaaGreatDoorBay
import Derived.Test.YtnilonnkcbkdmaaGreatDoorBbc
import Derived.Test.YtnilonnkcbkdmaaGreatDoorBbb
import Derived.Test.YtnilonnkcbkdmaaGreatDoorBbh
import Derived.Test.YtnilonnkcbkdmaaGreatDoorBbe
import Derived.Test.YtnilonnkcbkdmaaGreatDoorBbf
import Derived.Test.YtnilonnkcbkdmaaGreatDoorBbg
import Derived.Test.YtnilonnkcbkdmaaGreatDoorBbj
import Derived.Test.YtnilonnkcbkdmaaGreatDoorBbk
import Derived.Deep.RegionHeld3
import Derived.SevenTiedAt
import Derived.LaidMore
import Derived.Stop.Joined
import Derived.JoinedOf
import Derived.JoinedAt
import Derived.Lib.SmallJoins
import Derived.Laws.Bits64
import Derived.Laws.IdiomArrays
import Derived.WideKeyPair
import Derived.WideKeyArr2
import Derived.Deep.WholeRow
import Derived.Deep.MidRow
import Derived.Laws.CopyOwn
import Derived.RangeFuncSeq
import Derived.RangeFuncLeaves
import Derived.OrdersIn
import Derived.TacticsIn

namespace Go.Proofs.YtnilonnkcbkdmaaGreatDoor
open Go.RowKit
set_option linter.unusedVariables false
set_option maxHeartbeats 400000
theorem kW {n k:Nat} (h1:2^k≤n) (h2:n<2^(k+1)):bS n=k+1:=by
 have:=gU h1
 have:=dB h2
 omega
end Go.Proofs.YtnilonnkcbkdmaaGreatDoor
namespace Go.Proofs.YtnilonnkcbkdmaaGreatDoor
open Go.RowKit
set_option linter.unusedVariables false
theorem Fa.share {f:Fd} (F:Fa f) (k:Nat):gJ (f.p:Int) (((2^k:Nat):Int)*((sh f (2^k):Nat):Int)) 1:=by
 have h2:gJ (f.p:Int) ((2:Int)^(f.p-1)) 1:=by
  have p0:=F.good.p0
  have h:gJ (f.p:Int) ((2^(f.p-1):Nat):Int) ((1:Nat):Int):=rT (by rw [F.two,Nat.mod_eq_of_lt p0])
  rwa [Int.natCast_pow] at h
 refine inv_of F ?_
 rw [Int.natCast_pow,← Int.pow_mul,Nat.mul_comm,Int.pow_mul]
 have:=h2.pow k
 rwa [Int.one_pow] at this
end Go.Proofs.YtnilonnkcbkdmaaGreatDoor
namespace Go.Proofs.YtnilonnkcbkdmaaGreatDoor
open Go.RowKit
set_option linter.unusedVariables false
set_option maxHeartbeats 400000
set_option maxRecDepth 100000
theorem gp (w:World) (v:Value) (xs:List Nat) (k:Int) (hk0:0≤k) (hk1:k≤1000000000) (h:U w v xs) :
  Calls Tryz.prog 13 #[v,.int .i64 k] w fun e w'=>(∃ u,e = .returned u∧Un w' u (dG xs k.toNat))∧Below w.heap.size w w':=by
 have h':=h
 obtain ⟨A,c,rfl,⟨hc,hm⟩,hx,hr⟩:=h
 clear hr
 by_cases hl:(xs.length:Int)≤k
 · have hu:=aW w _ xs h' (by omega)
   have HT:Hid (xs.take k.toNat=xs):=List.take_of_length_le (by omega)
   have hmin:min (xs.length:Int) k=xs.length:=by omega
   go_enter Tryz.func13,Tryz.ntmps13
   go_wp2_with (go_at_call 37;refine hu.mono ?_;rintro e w' ⟨⟨z,rfl,hz⟩,hB⟩)
   go_ret
   exact ⟨⟨_,rfl,by rw [Un,dG,HT.out];exact hz⟩,hB⟩
 · obtain ⟨k,rfl⟩:=Int.eq_ofNat_of_zero_le hk0
   have hu:=aW w _ _ (h'.take (k:=k) (c':=c) (by omega) (by omega)) (by rw [List.length_take];omega)
   have hmin:min (xs.length:Int) (k:Int)=k:=by omega
   go_enter Tryz.func13,Tryz.ntmps13
   go_wp2_with (go_at_call 37;refine hu.mono ?_;rintro e w' ⟨⟨z,rfl,hz⟩,hB⟩)
   go_ret
   exact ⟨⟨_,rfl,by rw [Un,dG,Int.toNat_natCast];exact hz⟩,hB⟩
end Go.Proofs.YtnilonnkcbkdmaaGreatDoor
namespace Go.Proofs.YtnilonnkcbkdmaaGreatDoor
open Go.RowKit
set_option linter.unusedVariables false
theorem dR (w:World) (v:Value) (xs:List Nat) (k:Int) (h:U w v xs) (hk0:0≤k) (hk1:k≤1000000000) (n:Nat) (hn:dG xs k.toNat=n) :
  Calls Tryz.prog 13 #[v,.int .i64 k] w fun e w'=>∃ u,e = .returned u∧Un w' u n∧Ext w w':=by
 subst hn
 exact (gp w v xs k hk0 hk1 h).mono fun e w' ⟨⟨u,he,hu⟩,hb⟩=>⟨u,he,hu,hb⟩
end Go.Proofs.YtnilonnkcbkdmaaGreatDoor
namespace Go.Proofs.YtnilonnkcbkdmaaGreatDoor
open Go.RowKit
set_option linter.unusedVariables false
set_option maxHeartbeats 400000
theorem aaE {w X Y:World} {p q:Bool} {mp mq:Value} (h:(w.heap.size+1+1+1<X.heap.size∧X.cell? ⟨w.heap.size,0,none⟩=some (.bool p)∧X.cell? ⟨w.heap.size,1,none⟩=some mp∧X.cell? ⟨w.heap.size+1,0,none⟩=some (.bool q)∧X.cell? ⟨w.heap.size+1,1,none⟩=some mq)∧Ext w X) (k:Ext X Y):(w.heap.size+1+1+1<Y.heap.size∧Y.cell? ⟨w.heap.size,0,none⟩=some (.bool p)∧Y.cell? ⟨w.heap.size,1,none⟩=some mp∧Y.cell? ⟨w.heap.size+1,0,none⟩=some (.bool q)∧Y.cell? ⟨w.heap.size+1,1,none⟩=some mq)∧Ext w Y:=by
 obtain ⟨⟨h0,h1,h2,h3,h4⟩,hx⟩:=h
 have hs:=k.size
 exact ⟨⟨by omega,(k.cell (p:=⟨w.heap.size,0,none⟩) (by show w.heap.size<_;omega)).trans h1,(k.cell (p:=⟨w.heap.size,1,none⟩) (by show w.heap.size<_;omega)).trans h2,(k.cell (p:=⟨w.heap.size+1,0,none⟩) (by show w.heap.size+1<_;omega)).trans h3,(k.cell (p:=⟨w.heap.size+1,1,none⟩) (by show w.heap.size+1<_;omega)).trans h4⟩,hx.below k⟩
theorem aaJ {w X:World} {p q:Bool} {mp mq x y:Value} (h:(w.heap.size+1+1+1<X.heap.size∧X.cell? ⟨w.heap.size,0,none⟩=some (.bool p)∧X.cell? ⟨w.heap.size,1,none⟩=some mp∧X.cell? ⟨w.heap.size+1,0,none⟩=some (.bool q)∧X.cell? ⟨w.heap.size+1,1,none⟩=some mq)∧Ext w X):(w.heap.size+1+1+1<((X.setCell ⟨w.heap.size+1+1,0,none⟩ x).setCell ⟨w.heap.size+1+1,1,none⟩ y).heap.size∧((X.setCell ⟨w.heap.size+1+1,0,none⟩ x).setCell ⟨w.heap.size+1+1,1,none⟩ y).cell? ⟨w.heap.size,0,none⟩=some (.bool p)∧((X.setCell ⟨w.heap.size+1+1,0,none⟩ x).setCell ⟨w.heap.size+1+1,1,none⟩ y).cell? ⟨w.heap.size,1,none⟩=some mp∧((X.setCell ⟨w.heap.size+1+1,0,none⟩ x).setCell ⟨w.heap.size+1+1,1,none⟩ y).cell? ⟨w.heap.size+1,0,none⟩=some (.bool q)∧((X.setCell ⟨w.heap.size+1+1,0,none⟩ x).setCell ⟨w.heap.size+1+1,1,none⟩ y).cell? ⟨w.heap.size+1,1,none⟩=some mq)∧Ext w ((X.setCell ⟨w.heap.size+1+1,0,none⟩ x).setCell ⟨w.heap.size+1+1,1,none⟩ y):=by
 obtain ⟨⟨h0,h1,h2,h3,h4⟩,hx⟩:=h
 have hc:∀ a:Addr,a.block≠w.heap.size+1+1→((X.setCell ⟨w.heap.size+1+1,0,none⟩ x).setCell ⟨w.heap.size+1+1,1,none⟩ y).cell? a=X.cell? a:=fun a ha=>by
  rw [World.cell?_setCell_other _ _ _ _ (fun e=>ha (by rw [← e])),World.cell?_setCell_other _ _ _ _ (fun e=>ha (by rw [← e]))]
 refine ⟨⟨by simpa using h0,?_,?_,?_,?_⟩,hx.jS (by omega) _ _⟩
 · rw [hc _ (by show w.heap.size≠_;omega)];exact h1
 · rw [hc _ (by show w.heap.size≠_;omega)];exact h2
 · rw [hc _ (by show w.heap.size+1≠_;omega)];exact h3
 · rw [hc _ (by show w.heap.size+1≠_;omega)];exact h4
theorem aaK {w X:World} {p q:Bool} {mp mq x y:Value} (h:(w.heap.size+1+1+1<X.heap.size∧X.cell? ⟨w.heap.size,0,none⟩=some (.bool p)∧X.cell? ⟨w.heap.size,1,none⟩=some mp∧X.cell? ⟨w.heap.size+1,0,none⟩=some (.bool q)∧X.cell? ⟨w.heap.size+1,1,none⟩=some mq)∧Ext w X):(w.heap.size+1+1+1<((X.setCell ⟨w.heap.size+1+1+1,0,none⟩ x).setCell ⟨w.heap.size+1+1+1,1,none⟩ y).heap.size∧((X.setCell ⟨w.heap.size+1+1+1,0,none⟩ x).setCell ⟨w.heap.size+1+1+1,1,none⟩ y).cell? ⟨w.heap.size,0,none⟩=some (.bool p)∧((X.setCell ⟨w.heap.size+1+1+1,0,none⟩ x).setCell ⟨w.heap.size+1+1+1,1,none⟩ y).cell? ⟨w.heap.size,1,none⟩=some mp∧((X.setCell ⟨w.heap.size+1+1+1,0,none⟩ x).setCell ⟨w.heap.size+1+1+1,1,none⟩ y).cell? ⟨w.heap.size+1,0,none⟩=some (.bool q)∧((X.setCell ⟨w.heap.size+1+1+1,0,none⟩ x).setCell ⟨w.heap.size+1+1+1,1,none⟩ y).cell? ⟨w.heap.size+1,1,none⟩=some mq)∧Ext w ((X.setCell ⟨w.heap.size+1+1+1,0,none⟩ x).setCell ⟨w.heap.size+1+1+1,1,none⟩ y):=by
 obtain ⟨⟨h0,h1,h2,h3,h4⟩,hx⟩:=h
 have hc:∀ a:Addr,a.block≠w.heap.size+1+1+1→((X.setCell ⟨w.heap.size+1+1+1,0,none⟩ x).setCell ⟨w.heap.size+1+1+1,1,none⟩ y).cell? a=X.cell? a:=fun a ha=>by
  rw [World.cell?_setCell_other _ _ _ _ (fun e=>ha (by rw [← e])),World.cell?_setCell_other _ _ _ _ (fun e=>ha (by rw [← e]))]
 refine ⟨⟨by simpa using h0,?_,?_,?_,?_⟩,hx.jS (by omega) _ _⟩
 · rw [hc _ (by show w.heap.size≠_;omega)];exact h1
 · rw [hc _ (by show w.heap.size≠_;omega)];exact h2
 · rw [hc _ (by show w.heap.size+1≠_;omega)];exact h3
 · rw [hc _ (by show w.heap.size+1≠_;omega)];exact h4
end Go.Proofs.YtnilonnkcbkdmaaGreatDoor
namespace Go.Proofs.YtnilonnkcbkdmaaGreatDoor
open Go.ChangeShapes Go.WideShapes Go.ChangeAt Go.RowKit
set_option linter.unusedVariables false
set_option maxRecDepth 100000
theorem laidOut:laidOutB Tryz.prog=true:=by kernel_rfl
theorem jK:Tryz.prog.cellsOf 43 = 1:=by kernel_rfl
abbrev gQ:List (String × DataW Unit):=[("ziggurat/ntt.fields",Rows.laid_ziggurat_ntt_fields)]
theorem jf (os:Os) (args:Array Value):laidMetH Tryz.prog gQ ((World.doorLaid Tryz.prog 400 os).forCall (fun _ _=>0) ⟨#[],args,[]⟩).memory :=
 laidMetH_of_parts3 (fuel:=8) (laidMet_of_run' 8 (by kernel_rfl) (by kernel_rfl)) (by kernel_rfl) (by kernel_rfl)
theorem bP {H:Type} {enc:TypeId × Value→H} {W W':World} {sp:Nat→Bool} (hB:Ext W W'):∀ {ts:List TypeId} {vs:List Value} {ds:List (DataW H)} {ps:List MemPlace},
  (∀ t∈ts,Tryz.prog.readableRec t=true∧t<Tryz.prog.types.size)→DataW.TrodAll enc Tryz.prog W 0 (fun _=>true) true ts vs ds ps→(∀ p∈ps,p.block<W.heap.size)→(∀ p∈ps,sp p.block=true)→DataW.TrodAll enc Tryz.prog W' 0 sp true ts vs ds ps
 | [],[],[],_,_,h,_,_=>h
 | t::_,_::_,_::_,_,hT,⟨p,q,h1,h2,e⟩,hlt,hs=>⟨p,q,
  WideElems.Trod_stays laidOut (hT t (List.mem_cons_self ..)).1 (hT t (List.mem_cons_self ..)).2 h1 (fun x hx=>Below.same hB (hlt x (by rw [e];exact List.mem_append_left _ hx))) (fun x hx=>hs x (by rw [e];exact List.mem_append_left _ hx)),
  bP hB (fun t ht=>hT t (List.mem_cons_of_mem _ ht)) h2 (fun x hx=>hlt x (by rw [e];exact List.mem_append_right _ hx)) (fun x hx=>hs x (by rw [e];exact List.mem_append_right _ hx)),e⟩
theorem jg {H:Type} {enc:TypeId × Value→H} {f:Func} {s:ChangeSpec} {apart fresh handsOn again:Bool} {W W':World} {args:Array Value} {ds gs:List (DataW H)} {before:List MemPlace}
  (hW:DataW.Whole enc Tryz.prog f.params.toList s.vars apart W args.toList ds gs before) (hv:s.vars=[]) (hT:∀ t∈f.params.toList,Tryz.prog.readableRec t=true∧t<Tryz.prog.types.size)
  (hres:f.resultTypes=#[4]) (hfn:(s.fn H (ds++gs)).results=[.lit (.bool true)]) (hfa:(s.fn H (ds++gs)).args=ds) (P8:(s.fn H (ds++gs)).vars=[]) (hB:Ext W W') :
  s.post enc Tryz.prog f apart fresh handsOn again W args (.bool true) W':=by
 have hlt:∀ p∈before,p.block<W.heap.size:=fun p hp=>hW.lt p hp
 have hold:∀ p∈before,(fun b=>decide (b<W.heap.size)) p.block=true:=fun p hp=>by simpa using hlt p hp
 have hres':∀ (b:Nat) (sp:Nat→Bool) (hd:Bool),DataW.TrodAll enc Tryz.prog W' b sp hd f.resultTypes.toList ((Value.bool true).resultList f.resultTypes.size) (s.fn H (ds++gs)).results []:=by
  intro b sp hd
  rw [hres,hfn]
  exact trodAll_mk1 (shut_bool Tryz.underlying4 _)
 have hW2:=hW
 obtain ⟨p,q,hA,hV,hpq,hz,hn⟩:=hW
 rw [hv] at hV
 obtain ⟨_,rfl⟩:=trodVars_none hV
 rw [List.append_nil] at hpq
 subst hpq
 have hargs:∀ sp:Nat→Bool,(∀ p'∈before,sp p'.block=true)→DataW.TrodAll enc Tryz.prog W' 0 sp true f.params.toList args.toList (s.fn H (ds++gs)).args before:=fun sp hs=>by
  rw [hfa];exact bP hB hT hA hlt hs
 have hvars:∀ sp:Nat→Bool,DataW.TrodVars enc Tryz.prog W' sp s.vars (s.fn H (ds++gs)).vars []:=fun sp=>by rw [hv,P8];exact rfl
 refine ⟨ds,gs,before,[],before,[],hW2,hres' _ _ _,hargs _ hold,hvars _,World.keptBut_mono (fun p hp=>⟨hp,?_⟩) (Below.frame hB (·∈before)),fun _=>?_⟩
 · simpa using hp
 · refine ⟨ok_one hres rfl (okWide_bool_mk Tryz.underlying4 _),_,_,([]++before)++[],⟨[]++before,[],trodAll_append (hargs _ (fun _ _=>rfl)) (hres' _ _ _),hvars _,rfl,?_,?_⟩,?_⟩
   · intro b off hp
     have hin:MemPlace.cell b off∈before:=by simpa using hp
     rw [Below.frozen hB (hlt _ hin)]
     exact hz b off hin
   · intro ha
     have:=hn ha
     simpa using this
   · intro p hp _
     simpa using hp
theorem dS {H:Type} {enc:TypeId × Value→H} {W:World} {base:Nat} {v:Value} {d:DataW H} {ps:List MemPlace} (hval:Value.okWide Tryz.prog W .any base 22 v) (h:DataW.Trod enc Tryz.prog W 0 (fun _=>true) true 22 v d ps)
  (hlt:∀ p∈ps,p.block<W.heap.size):∃ xs:List Nat,U W v xs:=by
 obtain ⟨a0,len,cap,rfl⟩:=okWide_slice Tryz.underlying22 hval
 obtain ⟨fuel,hf⟩:=h
 rcases open_ints Tryz.underlying22 Tryz.underlying43 jK hf with ⟨hcs,hx⟩ | ⟨a,len',cap',zs,hcs,_,hl,hm,hz,hx,hcell,hwz⟩
 · simp [Value.cells] at hcs
   obtain ⟨rfl,rfl,rfl⟩:=hcs
   exact ⟨[],U.mE _ _ _⟩
 · simp [Value.cells] at hcs
   obtain ⟨rfl,rfl,rfl⟩:=hcs
   simp only [if_true] at hz
   have hlen:((zs.take len).map Int.toNat).length=len:=by simp;omega
   have hb:∀ z∈zs,0≤z∧z<4294967296:=fun z hzz=>by have:=bounds_u32 (hwz z hzz);omega
   refine ⟨(zs.take len).map Int.toNat,some a,cap,by rw [hlen],⟨by rw [hlen];exact hl,by rw [hlen];unfold maxLen at hm;omega⟩,?_,fun h0=>⟨a,rfl,?_,fun j hj=>?_⟩⟩
   · intro x hx'
     obtain ⟨z,hz1,rfl⟩:=List.mem_map.1 hx'
     have:=hb z (List.mem_of_mem_take hz1)
     omega
   · rw [hlen] at h0
     have hc:=hcell 0 (by omega)
     rw [fJ] at hc
     unfold World.cell? at hc
     rcases Nat.lt_or_ge a.block W.heap.size with h | h
     · exact h
     · rw [Array.getElem?_eq_none h] at hc;cases hc
   · rw [hlen] at hj
     have hjz:j<zs.length:=by omega
     have e:lb ((zs.take len).map Int.toNat) j=(zs.getD j 0).toNat:=by
      simp [lb,hj,hjz]
     rw [hcell j hjz,e]
     have hmem:zs.getD j 0∈zs:=by simp [hjz]
     have:=hb _ hmem
     rw [show (((zs.getD j 0).toNat:Nat):Int)=zs.getD j 0 by omega]
end Go.Proofs.YtnilonnkcbkdmaaGreatDoor
namespace Go.Proofs.YtnilonnkcbkdmaaGreatDoor
open Go.RowKit
set_option linter.unusedVariables false
set_option maxHeartbeats 400000
set_option maxRecDepth 100000
theorem iw (w:World) (v:Value) (n:Nat) (i:Int) (hi0 : -9000000000000≤i) (hi1:i≤9000000000000) (h:Un w v n) :
  Calls Tryz.prog 67 #[v,.int .i64 i] w fun e w'=>e = .returned (.int .u32 (fQ n i:Nat))∧w=w':=by
 obtain ⟨A,c,rfl,⟨hc,hm⟩,hx,hr⟩:=h
 by_cases h0:i<0
 · have HF:Hid (fQ n i=0):=if_pos h0
   go_enter Tryz.func67,Tryz.ntmps67
   go_wp2
   go_ret
   exact ⟨by rw [HF.out];rfl,rfl⟩
 · obtain ⟨k,rfl⟩:=Int.eq_ofNat_of_zero_le (show 0≤i by omega)
   have hkn:decide (((k:Nat):Int)<0)=false:=by rw [decide_eq_false_iff_not];omega
   have HB:Hid (fQ n (k:Int)=n/2^k%2):=by rw [Hid,fQ,if_neg h0,Int.toNat_natCast]
   by_cases h1:k/32<(limbs n).length
   · obtain ⟨ad,rfl,hb,hcell⟩:=hr (by omega)
     have hc1:=hcell (k/32) h1
     have HL:=Lib.hid (aQ hx (k/32))
     have HF:Hid (fQ n (k:Int)=lb (limbs n) (k/32)/2^(k%32)%2):=by
      rw [Hid,HB.out,mZ n k]
     clear HB
     go_enter Tryz.func67,Tryz.ntmps67
     go_wp2_with (fail)
     go_loop [5,6] (fun x j=>∃ m:Nat,m≤k%32∧j = .int .i64 m∧x = .int .u32 (lb (limbs n) (k/32)/2^m:Nat)) (fun x j=>k%32-(intOf j).toNat)
     case atStart=>exact ⟨0,Nat.zero_le _,rfl,by simp⟩
     case round =>
      obtain ⟨m,hm2,rfl,rfl⟩:=hrel
      have hq:lb (limbs n) (k/32)/2^m<4294967296:=Nat.lt_of_le_of_lt (Nat.div_le_self _ _) HL.out
      by_cases hlt:m<k%32
      · have HN:Hid (((lb (limbs n) (k/32)/2^m:Nat):Int)/2=((lb (limbs n) (k/32)/2^(m+1):Nat):Int)):=by
         rw [Hid,Nat.pow_succ,← Nat.div_div_eq_div_mul];omega
        generalize lb (limbs n) (k/32)/2^m=X at *
        go_wp2
        go_round
        case rel=>exact ⟨m+1,by omega,by go_num,by rw [HN.out]⟩
        case measure=>simp [intOf];omega
      · obtain rfl:m=k%32:=by omega
        generalize lb (limbs n) (k/32)/2^(k%32)=X at *
        go_wp2
        go_ret
        exact ⟨by rw [HF.out];rfl,rfl⟩
   · have HF:Hid (fQ n (k:Int)=0):=by rw [Hid,HB.out];exact rH n k (by omega)
     go_enter Tryz.func67,Tryz.ntmps67
     go_wp2
     go_ret
     exact ⟨by rw [HF.out];rfl,rfl⟩
theorem gy {t j:Nat} (h0:t/2^j=0) (h1:0<j→t/2^(j-1)≠0):bS t=j:=by
 have a:t<2^j:=by
  rcases Nat.lt_or_ge t (2^j) with h | h
  · exact h
  · have:=Nat.div_pos h (Nat.two_pow_pos j);omega
 rcases Nat.eq_zero_or_pos j with rfl | hj
 · have:t=0:=by simpa using a
   subst this;rfl
 · have b:2^(j-1)≤t:=by
    rcases Nat.lt_or_ge t (2^(j-1)) with h | h
    · exact absurd (Nat.div_eq_of_lt h) (h1 hj)
    · exact h
   have:=kW b (by rwa [show j-1+1=j by omega])
   omega
theorem gz (w:World) (v:Value) (n:Nat) (h:Un w v n) (hl:(limbs n).length≤1000000000) :
  Calls Tryz.prog 66 #[v] w fun e w'=>e = .returned (.int .i64 (bS n:Nat))∧∃ m,w'=w.drewN m:=by
 obtain ⟨A,c,rfl,⟨hc,hm⟩,hx,hr⟩:=h
 by_cases h0:n=0
 · subst h0
   have hz:limbs 0=[]:=bf
   rw [hz]
   clear hz hr hx hm hl hc
   have HF:Hid (bS 0=0):=rfl
   go_enter Tryz.func66,Tryz.ntmps66
   go_wp2
   go_ret
   exact ⟨by rw [HF.out];rfl,0,rfl⟩
 · have HF:=Lib.hid (jY n h0)
   have hlen:0<(limbs n).length:=by rw [eG h0];simp
   obtain ⟨ad,rfl,hb,hcell⟩:=hr hlen
   have hc1:=hcell ((limbs n).length-1) (by omega)
   have hne:(((limbs n).length:Int)==0)=false:=by rw [beq_eq_false_iff_ne];omega
   have hL:=aQ hx ((limbs n).length-1)
   have HL:=Lib.hid hL
   clear hL
   go_enter Tryz.func66,Tryz.ntmps66
   go_wp2_with (fail)
   go_region
   go_wp2_with (fail)
   clear hc1 hcell hr
   generalize ht:lb (limbs n) ((limbs n).length-1)=T at *
   clear ht
   go_loop [3,4] (fun m x=>∃ j:Nat,j≤32∧m = .int .i64 j∧x = .int .u32 (T/2^j:Nat)∧Hid (0<j→T/2^(j-1)≠0)) (fun m x=>33-(intOf m).toNat)
   case atStart=>exact ⟨0,Nat.zero_le _,rfl,by simp,fun h=>absurd h (by omega)⟩
   case round =>
    obtain ⟨j,hj,rfl,rfl,HZ⟩:=hrel
    have hq:T/2^j<4294967296:=Nat.lt_of_le_of_lt (Nat.div_le_self _ _) HL.out
    have HN:Hid (((T/2^j:Nat):Int)/2=((T/2^(j+1):Nat):Int)):=by
     rw [Hid,Nat.pow_succ,← Nat.div_div_eq_div_mul];omega
    rcases Nat.eq_zero_or_pos (T/2^j) with h0 | h0
    · have HT:Hid (bS T=j):=gy h0 HZ.out
      rw [h0]
      clear h0 hq HN
      go_wp2
      go_ret
      exact ⟨by rw [HF.out,HT.out];exact mJ (by omega),1,rfl⟩
    · have HP:Hid (T/2^j≠0):=by rw [Hid];omega
      have HJ:Hid (j<32):=by
       rw [Hid]
       rcases Nat.lt_or_ge j 32 with h | h
       · exact h
       · have:=Nat.pow_le_pow_right (n:=2) (by decide) h
         have h2:=HL.out
         exact absurd (Nat.div_eq_of_lt (Nat.lt_of_lt_of_le (by simpa using h2) this)) HP.out
      have TF:Hid (T/2^j≠0):=HP
      obtain ⟨X,hX⟩:∃ X,T/2^j=X:=⟨_,rfl⟩
      rw [hX] at HN HP hq h0
      rw [hX]
      clear hX
      go_wp2
      go_round
      case rel=>exact ⟨j+1,by have:=HJ.out;omega,by go_num,by rw [HN.out],fun _=>by rw [Nat.add_sub_cancel];exact TF.out⟩
      case measure=>have:=HJ.out;simp [intOf];omega
end Go.Proofs.YtnilonnkcbkdmaaGreatDoor
namespace Go.Proofs.YtnilonnkcbkdmaaGreatDoor
theorem iK {n m a b:Nat} (h1:(limbs n).length≤a) (h2:(limbs m).length≤b):(limbs (n+m)).length≤max a b+1:=by
 apply fM
 have g1:=Nat.lt_of_lt_of_le (bO h1) (Nat.pow_le_pow_right (show 0<4294967296 by decide) (Nat.le_max_left a b))
 have g2:=Nat.lt_of_lt_of_le (bO h2) (Nat.pow_le_pow_right (show 0<4294967296 by decide) (Nat.le_max_right a b))
 rw [Nat.pow_succ]
 omega
end Go.Proofs.YtnilonnkcbkdmaaGreatDoor
namespace Go.Proofs.YtnilonnkcbkdmaaGreatDoor
theorem aiJ (n:Nat) (i:Int):fQ n i≤1:=by
 unfold fQ
 split<;>omega
end Go.Proofs.YtnilonnkcbkdmaaGreatDoor
namespace Go.Proofs.YtnilonnkcbkdmaaGreatDoor
open Go.ChangeShapes Go.WideShapes Go.ChangeAt Go.RowKit
set_option linter.unusedVariables false
set_option maxRecDepth 100000
set_option maxHeartbeats 400000
theorem iE (xs:List Nat) (k:Nat) (hx:∀ x∈xs,x<4294967296):Ltl (dG xs k) k:=by
 have h:=lM (xs.take k) (fun x h=>hx x (List.mem_of_mem_take h))
 refine Nat.lt_of_lt_of_le h (Nat.pow_le_pow_right (by decide) ?_)
 rw [List.length_take];omega
end Go.Proofs.YtnilonnkcbkdmaaGreatDoor
namespace Go.Proofs.YtnilonnkcbkdmaaGreatDoor
open Go.RowKit
set_option linter.unusedVariables false
set_option maxHeartbeats 400000
set_option maxRecDepth 100000 in
set_option maxHeartbeats 8000000 in
theorem gX (w:World) (va vb:Value) (dL bs:List Nat) (na nb:Nat) (ha:U w va dL) (hb:U w vb bs) (hna:dL.length=na) (hnb:bs.length=nb) (hn1:na≤1000) (hn2:nb≤1000) :
  Calls Tryz.prog 68 #[va,vb] w fun e w'=>(∃ u,e = .returned u∧Un w' u (val dL*val bs))∧Ext w w':=by
 obtain ⟨A,ca,rfl,⟨hca,hma⟩,hxl,Lv⟩:=id ha
 obtain ⟨A2,cb,rfl,⟨hcb,hmb⟩,hyl,Lx⟩:=id hb
 have HL:Hid (dL.length=na∧bs.length=nb):=⟨hna,hnb⟩
 have Zb:=Lib.hid (fun k=>eT bs k)
 have Zc:=Lib.hid (fun k=>eT dL k)
 have HT2:Hid (bs.take nb=bs∧dL.take na=dL):=⟨by rw [← hnb];exact List.take_length,by rw [← hna];exact List.take_length⟩
 rw [hna] at hca hma Lv ⊢
 rw [hnb] at hcb hmb Lx ⊢
 obtain ⟨n,hnn⟩:∃ n,na+nb=n:=⟨_,rfl⟩
 have hni:(na:Int)+(nb:Int)=(n:Int):=by omega
 obtain ⟨i0,hi,hz0,hz1,hz2⟩:=info_parts iT
 obtain ⟨B,hB⟩:∃ B,w.heap.size=B:=⟨_,rfl⟩
 have pW:=Lib.hid hB
 clear ha hb hna hnb
 go_enter Tryz.func68,Tryz.ntmps68
 go_wp2_with (at_make;refine wpList_make_full _ rfl _ _ 22 rfl w.heap.size 43 i0 (.int .u32 0) 1 Tryz.underlying22 hi hz0 hz1 _ _ _ _ n rfl rfl (by omega) (by omega) (by rw [hz2];omega) (by unfold maxLen;omega) (Nat.le_refl _) ?_;intro w1 hown hgrow)
 have ho0:Own w1 w.heap.size (.slice (some ⟨w.heap.size,0,none⟩) n n) (List.replicate n 0):=by
  have:=Own.zeros hown
  rwa [List.length_replicate] at this
 have hE0:Ext w w1:=Below.grown (Ext.refl w) hgrow (Nat.le_refl _) (fun _ h=>by cases h)
 rw [hB] at ho0
 clear hown hgrow hi hz0 hz1 hz2 i0
 have hS0:Hid (Ku bs dL n 0 (List.replicate n 0)):=⟨by simp,fun x hx=>by simp at hx;omega,by simp [bM,val],fun m _=>iR _ _⟩
 go_wp2
 go_loopw [6] (fun t wr=>∃ (i:Nat) (o:List Nat),i≤na∧t = .int .i64 (i:Nat)∧Hid (Ku bs dL n i o)∧Own wr B (.slice (some ⟨B,0,none⟩) n n) o∧Ext w wr) (fun t _=>na-(intOf t).toNat)
 case atStart=>exact ⟨0,_,Nat.zero_le _,rfl,hS0,ho0,hE0⟩
 case round =>
  clear hS0 ho0 hE0
  obtain ⟨i,o,hib,rfl,HO,hown,hE⟩:=hrel
  by_cases hlt:i<na
  · obtain ⟨ad,rfl,hb1,hcell1⟩:=Lv (by omega)
    have hyb:=aQ hxl i
    have hty:=Zc.out i (by rw [HL.out.1];exact hlt)
    obtain ⟨y,wN⟩:∃ y,lb dL i=y:=⟨_,rfl⟩
    rw [wN] at hyb hty
    have HY:=Lib.hid wN
    have LA:Hid (P9 o n i (val o+LB^i*(val (bs.take 0)*y)) 0 o 0):=⟨HO.out.len,HO.out.lt,by decide,by simp [val],fun m _=>rfl⟩
    have vB:Hid (val (dL.take (i+1))=val (dL.take i)+LB^i*y):=hty
    have hno:Hid (lb o (i+nb)=0):=HO.out.out _ (by rw [HL.out.2];exact Nat.le_refl _)
    clear wN hty
    go_wp2
    go_loopw [8,7] (fun t s wx=>∃ (j:Nat) (o2:List Nat) (cy:Nat),j≤nb∧t = .int .i64 (j:Nat)∧s = .int .u64 (cy:Nat)∧Hid (P9 o n i (val o+LB^i*(val (bs.take j)*y)) j o2 cy)∧Own wx B (.slice (some ⟨B,0,none⟩) n n) o2∧Ext w wx) (fun t _ _=>nb-(intOf t).toNat)
    case atStart=>exact ⟨0,o,0,Nat.zero_le _,rfl,rfl,LA,hown,hE⟩
    case round =>
     clear LA hown hE
     obtain ⟨j,o2,cy,hj,rfl,rfl,HW,hown,hE⟩:=hrel
     by_cases hjt:j<nb
     · obtain ⟨IB,rfl,hb2,hcell2⟩:=Lx (by omega)
       have hc0:=(hE.cell (p:=ad.add i) (by rw [aM];exact hb1)).trans (hcell1 i hlt)
       rw [HY.out] at hc0
       have hc1:=(hE.cell (p:=IB.add j) (by rw [aM];exact hb2)).trans (hcell2 j hjt)
       have hxb:=aQ hyl j
       have htk:=Zb.out j (by rw [HL.out.2];exact hjt)
       have hcz:=hown.rd.2 (i+j) (by rw [HW.out.len];omega)
       have hf:=hown.frozen' (i+j)
       have hzb:=aQ HW.out.lt (i+j)
       have hcy:=HW.out.BC
       obtain ⟨x,wM⟩:∃ x,lb bs j=x:=⟨_,rfl⟩
       rw [wM] at hc1 hxb htk
       obtain ⟨z,hzz⟩:∃ z,lb o2 (i+j)=z:=⟨_,rfl⟩
       rw [hzz] at hcz hzb
       obtain ⟨t,ht⟩:∃ t,x*y=t:=⟨_,rfl⟩
       have ht1:t≤18446744065119617025:=by rw [← ht];exact IC hxb hyb
       have hti:(y:Int)*(x:Int)=(t:Int):=by rw [← ht,Int.natCast_mul,Int.mul_comm]
       obtain ⟨u,hu⟩:∃ u,cy+(t+z)=u:=⟨_,rfl⟩
       obtain ⟨s,hs⟩:∃ s,u%4294967296=s:=⟨_,rfl⟩
       obtain ⟨d,hd⟩:∃ d,u/4294967296=d:=⟨_,rfl⟩
       obtain ⟨hm,hsb,hdb,hub,htz⟩:=pX t z cy s d u ht1 hzb hcy hu hs hd
       have hst:=HW.out.step (by omega) t s d (by rw [hzz];exact hm) hsb hdb
       rw [Nat.add_assoc (val o),Nat.pow_add,Nat.mul_assoc,← Nat.mul_add,← ht,← Nat.mul_assoc,← Nat.add_mul,← htk] at hst
       have HST:=Lib.hid hst
       have hown2:=hown.set' (i+j) s
       have hE2:=hE.setCell (p:=⟨B,i+j,none⟩) (by rw [pW.out];exact Nat.le_refl _) (.int .u32 (s:Nat))
       have q1:IntKind.u64.wrap (t:Int)=(t:Int):=by rw [IntKind.wrap_u64];omega
       have q2:IntKind.u64.wrap ((t:Int)+(z:Int))=(t:Int)+(z:Int):=by rw [IntKind.wrap_u64];omega
       have q3:(t:Int)+(z:Int)+(cy:Int)=(u:Int):=by omega
       have q4:IntKind.u64.wrap (u:Int)=(u:Int):=by rw [IntKind.wrap_u64];omega
       have q5:IntKind.u32.wrap (u:Int)=(s:Int):=by rw [IntKind.wrap_u32];omega
       have q6:(u:Int)%4294967296=(s:Int):=by omega
       have q7:(u:Int)/4294967296=(d:Int):=by omega
       have q8:IntKind.u64.wrap (x:Int)=(x:Int):=by rw [IntKind.wrap_u64];omega
       have q9:IntKind.u64.wrap (y:Int)=(y:Int):=by rw [IntKind.wrap_u64];omega
       have q10:IntKind.u64.wrap (z:Int)=(z:Int):=by rw [IntKind.wrap_u64];omega
       have q11:(u:Int)%18446744073709551616=(u:Int):=by omega
       have q12:(t:Int)%18446744073709551616=(t:Int):=by omega
       have q13:((t:Int)+(z:Int))%18446744073709551616=(t:Int)+(z:Int):=by omega
       have q14:IntKind.i64.wrap ((i:Int)+(j:Int))=(i:Int)+(j:Int):=IntWalk.i64_in _ (by omega)
       have q15:(0:Int)≤(i:Int)+(j:Int):=by omega
       have q16:(i:Int)+(j:Int)<(n:Int):=by omega
       have TN:((i:Int)+(j:Int)).toNat=i+j:=by omega
       have q18:(0:Int)≤(i:Int):=by omega
       have q19:(i:Int)<(na:Int):=by omega
       have q20:(0:Int)≤(j:Int):=by omega
       have q21:(j:Int)<(nb:Int):=by omega
       clear hst htk wM hzz ht hu hs hd hm HW hxb hzb ht1 hcy hown2 hE2
       have HOWN:=Lib.hid hown
       have HEE:=Lib.hid hE
       clear hown hE
       go_wp2_with (fail)
       go_quiet (fail)
       have hown2:=(HOWN.out.ext (eU wr nq)).set' (i+j) s
       have hE2:=(HEE.out.below (eU wr nq)).setCell (p:=⟨B,i+j,none⟩) (by rw [pW.out];exact Nat.le_refl _) (.int .u32 (s:Nat))
       go_wp2
       go_roundw
       case rel=>exact ⟨j+1,_,d,by omega,by go_num,rfl,HST,hown2,hE2⟩
       case measure=>simp [intOf];omega
     · obtain rfl:j=nb:=by omega
       have hcz:=hown.rd.2 (i+j) (by rw [HW.out.len];omega)
       have hf:=hown.frozen' (i+j)
       have hl0:lb o2 (i+j)=0:=by rw [HW.out.out _ (Nat.le_refl _)];exact hno.out
       have hws:=oV o2 (i+j) cy (by rw [HW.out.len];omega)
       rw [hl0,Nat.mul_zero,Nat.add_zero,HW.out.val,HT2.out.1] at hws
       have sP:(Value.int .u32 (lb o2 (i+j):Nat)) = .int .u32 0:=by rw [hl0];rfl
       rw [sP] at hcz
       have vC:=HW.out.BC
       have q5:IntKind.u32.wrap (cy:Int)=(cy:Int):=by rw [IntKind.wrap_u32];omega
       have q6:(cy:Int)%4294967296=(cy:Int):=by omega
       have hown2:=hown.set' (i+j) cy
       have hE2:=hE.setCell (p:=⟨B,i+j,none⟩) (by rw [pW.out];exact Nat.le_refl _) (.int .u32 (cy:Nat))
       have HST:Hid (Ku bs dL n (i+1) (o2.set (i+j) cy)):=by
        refine ⟨by rw [List.length_set];exact HW.out.len,gm HW.out.lt vC,?_,fun m hm=>?_⟩
        · rw [hws,vB.out,Nat.mul_add,← HO.out.val,Nat.mul_left_comm]
        · rw [HL.out.2] at hm
          rw [dD _ (by omega),HW.out.out _ (by omega)]
          exact HO.out.out m (by rw [HL.out.2];omega)
       have g12:(i:Int)+(j:Int)<(n:Int):=by omega
       have g13:i+j<n:=by omega
       clear hl0 hws sP hown hE HW vC vB hno
       go_wp2
       go_roundw
       case rel=>exact ⟨i+1,_,by omega,by go_num,HST,hown2,hE2⟩
       case measure=>simp [intOf];omega
  · obtain rfl:i=na:=by omega
    have hu:=hown.lW HO.out.lt (by rw [HO.out.len];omega)
    have hvv:=HO.out.val
    rw [HT2.out.2,Nat.mul_comm] at hvv
    have HV:=Lib.hid hvv
    have hol:=HO.out.len
    clear hown HO hvv
    go_wp2_with (fail)
    refine (aW _ _ _ hu (by omega)).mono ?_
    rintro e w2 ⟨⟨u,rfl,hu2⟩,hB2⟩
    rw [HV.out] at hu2
    have hE2:=hE.below hB2
    have HF:Hid (∃ u',Ending.returned u = .returned u'∧Un w2 u' (val dL*val bs)):=⟨_,rfl,hu2⟩
    clear hu2 hu hB2
    go_wp2
    go_ret
    exact ⟨HF.out,hE2⟩
end Go.Proofs.YtnilonnkcbkdmaaGreatDoor
namespace Go.Proofs.YtnilonnkcbkdmaaGreatDoor
open Go.RowKit
set_option linter.unusedVariables false
set_option maxHeartbeats 400000
theorem jJ (w:World) (va vb:Value) (n m k:Nat) (ha:Un w va n) (hb:Un w vb m) (hn:(limbs n).length≤398) (hm:(limbs m).length≤398) (hk:n*m=k) :
  Calls Tryz.prog 68 #[va,vb] w fun e w'=>∃ u,e = .returned u∧Un w' u k∧Ext w w':=by
 refine (gX w va vb _ _ _ _ ha hb rfl rfl (by omega) (by omega)).mono ?_
 rw [aG,aG,hk]
 rintro e w' ⟨⟨u,h1,h2⟩,h3⟩
 exact ⟨u,h1,h2,h3⟩
end Go.Proofs.YtnilonnkcbkdmaaGreatDoor
namespace Go.Proofs.YtnilonnkcbkdmaaGreatDoor
open Go.RowKit
set_option linter.unusedVariables false
set_option maxHeartbeats 400000
attribute [local go_sem ↓] dH
attribute [local go_sem] aT
theorem aY {w0 w:World} (hB:Below w0.heap.size w0 w) {v:Value} {o:List Nat} (hown:Own w w0.heap.size v o) (z:Int) (x:Nat) (hz:z=(x:Int)) (hx:x<4294967296) (hlen:o.length+1≤35184372088832) :
  ∃ v' w',(Builtin.append_ #[22,22] 22 #[v,.slice (some ⟨w.heap.size,0,none⟩) 1 1]).run Tryz.prog (w.alloc (.cells #[.int .u32 z] 43)) = .ok v' w'∧Own w' w0.heap.size v' (o++[x])∧Below w0.heap.size w0 w':=by
 subst hz
 have hu:U (w.alloc (.cells #[.int .u32 (x:Int)] 43)) (.slice (some ⟨w.heap.size,0,none⟩) 1 1) [x]:=xJ w [x] (by simpa using hx) (by simp)
 have hB1:=hB.alloc hB.size (.cells #[.int .u32 (x:Int)] 43)
 obtain ⟨v',w',hrun,ho,hg⟩:=bE _ w0.heap.size _ o (World.ownsRow.alloc hown _) _ _ hu (by simpa using hlen) hB1.size
 exact ⟨v',w',hrun,ho,hB1.grown hg hB1.size (fun j e=>(World.ownsRow.lt hown j e).1)⟩
set_option maxRecDepth 100000 in
theorem nU (w:World) (v u:Value) (xs ys:List Nat) (h:U w v xs) (g:U w u ys) (hl:xs.length≤100000000) (hl2:ys.length≤100000000) :
  Calls Tryz.prog 30 #[v,u] w fun e w'=>(∃ z,e = .returned z∧U w' z (limbs (val xs+val ys)))∧Below w.heap.size w w':=by
 obtain ⟨A,c,rfl,⟨hc,hm⟩,hx,hr⟩:=id h
 obtain ⟨A2,c2,rfl,⟨hc2,hm2⟩,hx2,hr2⟩:=id g
 clear hr hr2
 go_enter Tryz.func30,Tryz.ntmps30
 go_wp2_with (fail)
 have hown0:Own (w.alloc (.cells #[] 43)) w.heap.size (.slice (some ⟨w.heap.size,0,none⟩) 0 0) []:=World.ownsRow_lit w #[] 0 (Nat.le_refl _) (Nat.zero_le _) rfl
 have hB0:Below w.heap.size w (w.alloc (.cells #[] 43)):=(Below.refl _ _).alloc (Nat.le_refl _) _
 go_loopw [5,6,7] (fun s cv i wr=>∃ (k cy:Nat) (o:List Nat),k≤max xs.length ys.length+1∧i = .int .i64 k∧cv = .int .u64 cy∧Hid (iW xs ys k o cy)∧Own wr w.heap.size s o∧Below w.heap.size w wr) (fun _ _ i _=>max xs.length ys.length+2-(intOf i).toNat)
 case atStart=>exact ⟨0,0,[],Nat.zero_le _,rfl,rfl,iW.start xs ys,hown0,hB0⟩
 case round =>
  clear hown0 hB0
  obtain ⟨k,cy,o,hk,rfl,rfl,HO,hown,hB⟩:=hrel
  by_cases hd1:k≤xs.length
  · have h1:=aQ hx k
    have h2:=aQ hx2 k
    have h3:=HO.out.carry
    have hlen:=HO.out.len
    obtain ⟨x1,hx1⟩:∃ x1,(lb xs k+lb ys k+cy)%4294967296=x1:=⟨_,rfl⟩
    obtain ⟨c1,hc1⟩:∃ c1,(lb xs k+lb ys k+cy)/4294967296=c1:=⟨_,rfl⟩
    have kL:Hid (iW xs ys (k+1) (o++[x1]) c1):=by rw [Hid,← hx1,← hc1];exact HO.out.step hx hx2
    obtain ⟨v',w',hrun,hown',hB'⟩:=aY hB hown ((((lb xs k:Nat):Int)+((lb ys k:Nat):Int)+(cy:Int))%4294967296) x1 (by rw [← hx1];omega) (by rw [← hx1];exact Nat.mod_lt _ (by decide)) (by omega)
    obtain ⟨t1,t2,t3⟩:=aU hrun
    have hk2:k+1≤max xs.length ys.length+1:=by omega
    have kM:Hid ((((lb xs k:Nat):Int)+((lb ys k:Nat):Int)+(cy:Int))/4294967296=(c1:Int)):=by rw [Hid,← hc1];omega
    clear hrun hx1 hc1 hlen
    go_wp2_with (fail)
    refine (aC _ _ xs _ k rfl (h.below hB)).mono ?_
    rintro e w' ⟨rfl,rfl⟩
    go_wp2_with (fail)
    refine (aC _ _ ys _ k rfl (g.below hB)).mono ?_
    rintro e w' ⟨rfl,rfl⟩
    go_wp2_with (fail)
    go_roundw
    case rel=>exact ⟨k+1,c1,_,hk2,by go_num,by rw [kM.out],kL,hown',hB'⟩
    case measure=>simp [intOf];omega
  · by_cases hd2:k≤ys.length
    · have h1:=aQ hx k
      have h2:=aQ hx2 k
      have h3:=HO.out.carry
      have hlen:=HO.out.len
      obtain ⟨x1,hx1⟩:∃ x1,(lb xs k+lb ys k+cy)%4294967296=x1:=⟨_,rfl⟩
      obtain ⟨c1,hc1⟩:∃ c1,(lb xs k+lb ys k+cy)/4294967296=c1:=⟨_,rfl⟩
      have kL:Hid (iW xs ys (k+1) (o++[x1]) c1):=by rw [Hid,← hx1,← hc1];exact HO.out.step hx hx2
      obtain ⟨v',w',hrun,hown',hB'⟩:=aY hB hown ((((lb xs k:Nat):Int)+((lb ys k:Nat):Int)+(cy:Int))%4294967296) x1 (by rw [← hx1];omega) (by rw [← hx1];exact Nat.mod_lt _ (by decide)) (by omega)
      obtain ⟨t1,t2,t3⟩:=aU hrun
      have hk2:k+1≤max xs.length ys.length+1:=by omega
      have kM:Hid ((((lb xs k:Nat):Int)+((lb ys k:Nat):Int)+(cy:Int))/4294967296=(c1:Int)):=by rw [Hid,← hc1];omega
      clear hrun hx1 hc1 hlen
      go_wp2_with (fail)
      refine (aC _ _ xs _ k rfl (h.below hB)).mono ?_
      rintro e w' ⟨rfl,rfl⟩
      go_wp2_with (fail)
      refine (aC _ _ ys _ k rfl (g.below hB)).mono ?_
      rintro e w' ⟨rfl,rfl⟩
      go_wp2_with (fail)
      go_roundw
      case rel=>exact ⟨k+1,c1,_,hk2,by go_num,by rw [kM.out],kL,hown',hB'⟩
      case measure=>simp [intOf];omega
    · have hlen:=HO.out.len
      obtain ⟨j,rfl⟩:∃ j,k=j+1:=⟨k-1,by omega⟩
      have HV:Hid (val o=val xs+val ys):=HO.out.done hx hx2 (by omega) (by omega)
      have hu:=hown.lW HO.out.lt (by omega)
      have hol:o.length≤1000000000:=by omega
      clear hlen
      go_wp2_with (fail)
      refine (aW _ _ _ hu hol).mono ?_
      rintro e w' ⟨⟨z,rfl,hz⟩,hB2⟩
      rw [HV.out] at hz
      replace hB:=Below.trans hB (Below.mono hB2 hB.size)
      go_wp2
      go_ret
      exact ⟨⟨_,rfl,hz⟩,hB⟩
end Go.Proofs.YtnilonnkcbkdmaaGreatDoor
namespace Go.Proofs.YtnilonnkcbkdmaaGreatDoor
open Go.RowKit
set_option linter.unusedVariables false
set_option maxHeartbeats 400000
attribute [local go_sem ↓] dH
attribute [local go_sem] aT
set_option maxRecDepth 100000 in
theorem TP (w:World) (v u:Value) (n m:Nat) (h:Un w v n) (g:Un w u m) (hl:(limbs n).length≤100000000) (hl2:(limbs m).length≤100000000) (b:Bool) (hb:decide (m≤n)=b) (d:Nat) (hd:n-m=d) :
  Calls Tryz.prog 38 #[v,u] w fun e w'=>(∃ z,e = .returned (.tuple #[z,.bool b])∧Un w' z d)∧Below w.heap.size w w':=by
 obtain ⟨A,c,rfl,⟨hc,hm⟩,hx,hr⟩:=id h
 obtain ⟨A2,c2,rfl,⟨hc2,hm2⟩,hx2,hr2⟩:=id g
 clear hr hr2
 rcases Nat.lt_or_ge n m with hlt | hge
 · have HF:Hid (bQ (val (limbs n):Nat) (val (limbs m):Nat) = -1):=by rw [Hid,aG,aG];exact fu (Int.ofNat_lt.2 hlt)
   obtain rfl:d=0:=by omega
   obtain rfl:b=false:=by rw [← hb,decide_eq_false_iff_not];omega
   clear hb hd hlt
   go_enter Tryz.func38,Tryz.ntmps38
   go_wp2_with (fail)
   refine (dK _ _ _ _ _ h g (by omega) (by omega)).mono ?_
   rintro e w' ⟨rfl,rfl⟩
   rw [HF.out]
   go_wp2
   go_ret2
   exact ⟨⟨_,rfl,uA _⟩,Below.refl _ _⟩
 · have HF:Hid (0≤bQ (val (limbs n):Nat) (val (limbs m):Nat)):=by
    rw [Hid,aG,aG]
    rcases Nat.lt_or_ge m n with h1 | h1
    · rw [fG (Int.ofNat_lt.2 h1)];decide
    · obtain rfl:n=m:=by omega
      rw [fZ];decide
   obtain rfl:b=true:=by rw [← hb,decide_eq_true_iff];omega
   have HD:=Lib.hid hd
   have HG:=Lib.hid hge
   have hll:=gV hge
   clear hb hd hge
   obtain ⟨K,hK⟩:∃ K,bQ (val (limbs n):Nat) (val (limbs m):Nat)=K:=⟨_,rfl⟩
   have hK0:0≤K:=by rw [← hK];exact HF.out
   clear HF
   go_enter Tryz.func38,Tryz.ntmps38
   go_wp2_with (fail)
   refine (dK _ _ _ _ _ h g (by omega) (by omega)).mono ?_
   rintro e w' ⟨rfl,rfl⟩
   rw [hK]
   clear hK
   go_wp2_with (fail)
   have hown0:Own (w.alloc (.cells #[] 43)) w.heap.size (.slice (some ⟨w.heap.size,0,none⟩) 0 0) []:=World.ownsRow_lit w #[] 0 (Nat.le_refl _) (Nat.zero_le _) rfl
   have hB0:Below w.heap.size w (w.alloc (.cells #[] 43)):=(Below.refl _ _).alloc (Nat.le_refl _) _
   go_loopw [6,7,8] (fun s cv i wr=>∃ (k cy:Nat) (o:List Nat),k≤(limbs n).length∧i = .int .i64 k∧cv = .int .u64 cy∧Hid (mK (limbs n) (limbs m) k o cy)∧Own wr w.heap.size s o∧Below w.heap.size w wr) (fun _ _ i _=>(limbs n).length-(intOf i).toNat)
   case atStart=>exact ⟨0,0,[],Nat.zero_le _,rfl,rfl,mK.start _ _,hown0,hB0⟩
   case round =>
    clear hown0 hB0
    obtain ⟨k,cy,o,hk,rfl,rfl,HO,hown,hB⟩:=hrel
    by_cases hd1:k<(limbs n).length
    · have h1:=aQ hx k
      have h2:=aQ hx2 k
      have h3:=HO.out.carry
      have hlen:=HO.out.len
      obtain ⟨x1,hx1⟩:∃ x1,(4294967296+lb (limbs n) k-lb (limbs m) k-cy)%4294967296=x1:=⟨_,rfl⟩
      obtain ⟨c1,hc1⟩:∃ c1,1-(4294967296+lb (limbs n) k-lb (limbs m) k-cy)/4294967296=c1:=⟨_,rfl⟩
      have kL:Hid (mK (limbs n) (limbs m) (k+1) (o++[x1]) c1):=by rw [Hid,← hx1,← hc1];exact HO.out.step hx hx2
      obtain ⟨v',w',hrun,hown',hB'⟩:=aY hB hown ((4294967296+((lb (limbs n) k:Nat):Int)-((lb (limbs m) k:Nat):Int)-(cy:Int))%4294967296) x1 (by rw [← hx1];omega) (by rw [← hx1];exact Nat.mod_lt _ (by decide)) (by omega)
      obtain ⟨t1,t2,t3⟩:=aU hrun
      have kM:Hid (1-(4294967296+((lb (limbs n) k:Nat):Int)-((lb (limbs m) k:Nat):Int)-(cy:Int))/4294967296=(c1:Int)):=by rw [Hid,← hc1];omega
      clear hrun hx1 hc1 hlen
      go_wp2_with (fail)
      refine (aC _ _ (limbs n) _ k rfl (U.below h hB)).mono ?_
      rintro e w' ⟨rfl,rfl⟩
      go_wp2_with (fail)
      refine (aC _ _ (limbs m) _ k rfl (U.below g hB)).mono ?_
      rintro e w' ⟨rfl,rfl⟩
      go_wp2_with (fail)
      go_roundw
      case rel=>exact ⟨k+1,c1,_,by omega,by go_num,by rw [kM.out],kL,hown',hB'⟩
      case measure=>simp [intOf];omega
    · have hlen:=HO.out.len
      obtain rfl:k=(limbs n).length:=by omega
      have HV:Hid (val o=d):=by rw [Hid,HO.out.done hll (by rw [aG,aG];exact HG.out),aG,aG];exact HD.out
      have hu:=hown.lW HO.out.lt (by omega)
      have hol:o.length≤1000000000:=by omega
      clear hlen
      go_wp2_with (fail)
      refine (aW _ _ _ hu hol).mono ?_
      rintro e w' ⟨⟨z,rfl,hz⟩,hB2⟩
      have hz2:Un w' z d:=by rw [← HV.out];exact hz
      replace hB:=Below.trans hB (Below.mono hB2 hB.size)
      clear hz
      go_wp2
      go_ret2
      exact ⟨⟨_,rfl,hz2⟩,hB⟩
end Go.Proofs.YtnilonnkcbkdmaaGreatDoor
namespace Go.Proofs.YtnilonnkcbkdmaaGreatDoor
open Go.RowKit
set_option linter.unusedVariables false
theorem kC (w:World) (v:Value) (n:Nat) (h:Un w v n) (hl:(limbs n).length≤1000000000) (k:Int) (hk:((bS n:Nat):Int)=k) :
  Calls Tryz.prog 66 #[v] w fun e w'=>e = .returned (.int .i64 k)∧Ext w w' :=
 (gz w v n h hl).mono fun e w' ⟨he,m,hw⟩=>⟨by rw [he,hk],by rw [hw];exact eU w m⟩
theorem l8 (w:World) (v:Value) (n:Nat) (i:Int) (h:Un w v n) (hi0 : -9000000000000≤i) (hi1:i≤9000000000000) (k:Int) (hk:((fQ n i:Nat):Int)=k) :
  Calls Tryz.prog 67 #[v,.int .i64 i] w fun e w'=>e = .returned (.int .u32 k)∧Ext w w' :=
 (iw w v n i hi0 hi1 h).mono fun e w' ⟨he,hw⟩=>⟨by rw [he,hk],by rw [← hw];exact Ext.refl w⟩
theorem wm (w:World) (v u:Value) (n m:Nat) (h:Un w v n) (g:Un w u m) (hm:(limbs n).length≤100000000) (hm2:(limbs m).length≤100000000) (s:Nat) (hs:n+m=s) :
  Calls Tryz.prog 30 #[v,u] w fun e w'=>∃ z,e = .returned z∧Un w' z s∧Ext w w':=by
 subst hs
 have:=nU w v u _ _ h g hm hm2
 rw [aG,aG] at this
 exact this.mono fun e w' ⟨⟨z,he,hz⟩,hb⟩=>⟨z,he,hz,hb⟩
theorem TR (w:World) (v u:Value) (n m:Nat) (h:Un w v n) (g:Un w u m) (hm:(limbs n).length≤100000000) (hm2:(limbs m).length≤100000000) (b:Bool) (hb:decide (m≤n)=b) (d:Nat) (hd:n-m=d) :
  Calls Tryz.prog 38 #[v,u] w fun e w'=>∃ z,e = .returned (.tuple #[z,.bool b])∧Un w' z d∧Ext w w' :=
 (TP w v u n m h g hm hm2 b hb d hd).mono fun e w' ⟨⟨z,he,hz⟩,hb⟩=>⟨z,he,hz,hb⟩
end Go.Proofs.YtnilonnkcbkdmaaGreatDoor
namespace Go.Proofs.YtnilonnkcbkdmaaGreatDoor
open Go.RowKit
set_option linter.unusedVariables false
set_option maxHeartbeats 400000
theorem kP (w:World) (va vb:Value) (n m k:Nat) (ha:Un w va n) (hb:Un w vb m) (hn:(limbs n).length≤398) (hm:(limbs m).length≤398) (hk:n*m=k) :
  Calls Tryz.prog 28 #[va,vb] w fun e w'=>∃ u,e = .returned u∧Un w' u k∧Ext w w':=by
 have h0:=Lib.hid (jJ w va vb n m k ha hb hn hm hk)
 clear ha hb hn hm hk
 go_enter Tryz.func28,Tryz.ntmps28
 go_wp2_with (fail)
 refine h0.out.mono ?_
 rintro e w1 ⟨u,rfl,hu,hB⟩
 have HF:Hid (∃ u',Ending.returned u = .returned u'∧Un w1 u' k∧Ext w w1):=⟨_,rfl,hu,hB⟩
 clear hu hB h0
 go_wp2
 go_ret
 exact HF.out
end Go.Proofs.YtnilonnkcbkdmaaGreatDoor
namespace Go.Proofs.YtnilonnkcbkdmaaGreatDoor
open Go.RowKit
set_option linter.unusedVariables false
set_option maxHeartbeats 400000
set_option maxRecDepth 100000
attribute [local go_sem ↓] dH
attribute [local go_sem] aT
theorem bL (w:World) (v:Value) (xs:List Nat) (h:U w v xs) (hlen:xs.length≤1000000000) :
  Calls Tryz.prog 37 #[v] w fun e w'=>(∃ u,e = .returned u∧U w' u (limbs (val xs))∧d9 w.heap.size u)∧Below w.heap.size w w':=by
 have h':=h
 obtain ⟨A,c,rfl,⟨hc,hm⟩,hx,hr⟩:=h
 go_enter Tryz.func37,Tryz.ntmps37
 go_wp2
 go_loop [3] (fun n=>∃ k:Nat,k≤xs.length∧n = .int .i64 k∧Hid (∀ j,k≤j→j<xs.length→lb xs j=0)) (fun n=>(intOf n).toNat)
 case atStart=>exact ⟨xs.length,Nat.le_refl _,rfl,fun j h1 h2=>by omega⟩
 case round =>
  obtain ⟨k,hk,rfl,hz⟩:=hrel
  have hfin:(0<k→lb xs (k-1)≠0)→∃ v' w',(Builtin.append_ #[22,22] 22 #[.slice (some ⟨w.heap.size,0,none⟩) 0 0,.slice A k c]).run Tryz.prog (w.alloc (.cells #[] 43)) = .ok v' w'∧(U w' v' (limbs (val xs))∧d9 w.heap.size v')∧Below w.heap.size w w':=fun h2=>by
   have hB:Below w.heap.size w (w.alloc (.cells #[] 43)):=(Below.refl _ _).alloc (Nat.le_refl _) _
   have hown:Own (w.alloc (.cells #[] 43)) w.heap.size (.slice (some ⟨w.heap.size,0,none⟩) 0 0) []:=World.ownsRow_lit w #[] 0 (Nat.le_refl _) (Nat.zero_le _) rfl
   have hu:U w (.slice A k c) (xs.take k):=h'.take hk (by omega)
   have htl:(xs.take k).length=k:=by simp;omega
   obtain ⟨v',w',hrun,ho,hg⟩:=bE _ w.heap.size _ [] hown _ _ (hu.below hB) (by rw [htl];simp;omega) hB.size
   refine ⟨v',w',hrun,?_,hB.grown hg hB.size (fun j e=>by cases e;exact Nat.le_refl _)⟩
   refine ⟨?_,ho.fr⟩
   rw [iJ xs k hx hk hz.out h2]
   rw [List.nil_append] at ho
   exact ho.lW (fun x hx'=>hx x (List.mem_of_mem_take hx')) (by rw [htl];omega)
  rcases Nat.eq_zero_or_pos k with rfl | h0
  · obtain ⟨v',w',hrun,HU,HB⟩:=hfin (fun h=>absurd h (by omega))
    obtain ⟨t1,t2,t3⟩:=aU hrun
    clear hfin hrun
    go_wp2
    go_ret
    exact ⟨⟨_,rfl,HU⟩,HB⟩
  · obtain ⟨ad,rfl,hb,hcell⟩:=hr (by omega)
    have hc1:=hcell (k-1) (by omega)
    by_cases hx0:lb xs (k-1)=0
    · have ht:((((lb xs (k-1):Nat)):Int)==0)=true:=by rw [hx0];rfl
      have HX:=Lib.hid hx0
      clear hx0 hfin
      go_wp2
      go_round
      case rel=>exact ⟨k-1,by omega,by go_num,fun j h1 h2=>by
       rcases Nat.lt_or_ge j k with h3 | h3
       · have:j=k-1:=by omega
         subst this;exact HX.out
       · exact hz.out j h3 h2⟩
      case measure=>simp [intOf];omega
    · have ht:((((lb xs (k-1):Nat)):Int)==0)=false:=by rw [beq_eq_false_iff_ne];omega
      obtain ⟨v',w',hrun,HU,HB⟩:=hfin (fun _=>hx0)
      obtain ⟨t1,t2,t3⟩:=aU hrun
      clear hfin hrun hx0
      go_wp2
      go_ret
      exact ⟨⟨_,rfl,HU⟩,HB⟩
set_option maxRecDepth 100000 in
theorem gB (w:World) (v u:Value) (xs ys:List Nat) (h:U w v xs) (g:U w u ys) (hl:xs.length≤100000000) (hl2:ys.length≤100000000) :
  Calls Tryz.prog 30 #[v,u] w fun e w'=>(∃ z,e = .returned z∧U w' z (limbs (val xs+val ys))∧d9 w.heap.size z)∧Below w.heap.size w w':=by
 obtain ⟨A,c,rfl,⟨hc,hm⟩,hx,hr⟩:=id h
 obtain ⟨A2,c2,rfl,⟨hc2,hm2⟩,hx2,hr2⟩:=id g
 clear hr hr2
 go_enter Tryz.func30,Tryz.ntmps30
 go_wp2_with (fail)
 have hown0:Own (w.alloc (.cells #[] 43)) w.heap.size (.slice (some ⟨w.heap.size,0,none⟩) 0 0) []:=World.ownsRow_lit w #[] 0 (Nat.le_refl _) (Nat.zero_le _) rfl
 have hB0:Below w.heap.size w (w.alloc (.cells #[] 43)):=(Below.refl _ _).alloc (Nat.le_refl _) _
 go_loopw [5,6,7] (fun s cv i wr=>∃ (k cy:Nat) (o:List Nat),k≤max xs.length ys.length+1∧i = .int .i64 k∧cv = .int .u64 cy∧Hid (iW xs ys k o cy)∧Own wr w.heap.size s o∧Below w.heap.size w wr) (fun _ _ i _=>max xs.length ys.length+2-(intOf i).toNat)
 case atStart=>exact ⟨0,0,[],Nat.zero_le _,rfl,rfl,iW.start xs ys,hown0,hB0⟩
 case round =>
  clear hown0 hB0
  obtain ⟨k,cy,o,hk,rfl,rfl,HO,hown,hB⟩:=hrel
  by_cases hd1:k≤xs.length
  · have h1:=aQ hx k
    have h2:=aQ hx2 k
    have h3:=HO.out.carry
    have hlen:=HO.out.len
    obtain ⟨x1,hx1⟩:∃ x1,(lb xs k+lb ys k+cy)%4294967296=x1:=⟨_,rfl⟩
    obtain ⟨c1,hc1⟩:∃ c1,(lb xs k+lb ys k+cy)/4294967296=c1:=⟨_,rfl⟩
    have kL:Hid (iW xs ys (k+1) (o++[x1]) c1):=by rw [Hid,← hx1,← hc1];exact HO.out.step hx hx2
    obtain ⟨v',w',hrun,hown',hB'⟩:=aY hB hown ((((lb xs k:Nat):Int)+((lb ys k:Nat):Int)+(cy:Int))%4294967296) x1 (by rw [← hx1];omega) (by rw [← hx1];exact Nat.mod_lt _ (by decide)) (by omega)
    obtain ⟨t1,t2,t3⟩:=aU hrun
    have hk2:k+1≤max xs.length ys.length+1:=by omega
    have kM:Hid ((((lb xs k:Nat):Int)+((lb ys k:Nat):Int)+(cy:Int))/4294967296=(c1:Int)):=by rw [Hid,← hc1];omega
    clear hrun hx1 hc1 hlen
    go_wp2_with (fail)
    refine (aC _ _ xs _ k rfl (h.below hB)).mono ?_
    rintro e w' ⟨rfl,rfl⟩
    go_wp2_with (fail)
    refine (aC _ _ ys _ k rfl (g.below hB)).mono ?_
    rintro e w' ⟨rfl,rfl⟩
    go_wp2_with (fail)
    go_roundw
    case rel=>exact ⟨k+1,c1,_,hk2,by go_num,by rw [kM.out],kL,hown',hB'⟩
    case measure=>simp [intOf];omega
  · by_cases hd2:k≤ys.length
    · have h1:=aQ hx k
      have h2:=aQ hx2 k
      have h3:=HO.out.carry
      have hlen:=HO.out.len
      obtain ⟨x1,hx1⟩:∃ x1,(lb xs k+lb ys k+cy)%4294967296=x1:=⟨_,rfl⟩
      obtain ⟨c1,hc1⟩:∃ c1,(lb xs k+lb ys k+cy)/4294967296=c1:=⟨_,rfl⟩
      have kL:Hid (iW xs ys (k+1) (o++[x1]) c1):=by rw [Hid,← hx1,← hc1];exact HO.out.step hx hx2
      obtain ⟨v',w',hrun,hown',hB'⟩:=aY hB hown ((((lb xs k:Nat):Int)+((lb ys k:Nat):Int)+(cy:Int))%4294967296) x1 (by rw [← hx1];omega) (by rw [← hx1];exact Nat.mod_lt _ (by decide)) (by omega)
      obtain ⟨t1,t2,t3⟩:=aU hrun
      have hk2:k+1≤max xs.length ys.length+1:=by omega
      have kM:Hid ((((lb xs k:Nat):Int)+((lb ys k:Nat):Int)+(cy:Int))/4294967296=(c1:Int)):=by rw [Hid,← hc1];omega
      clear hrun hx1 hc1 hlen
      go_wp2_with (fail)
      refine (aC _ _ xs _ k rfl (h.below hB)).mono ?_
      rintro e w' ⟨rfl,rfl⟩
      go_wp2_with (fail)
      refine (aC _ _ ys _ k rfl (g.below hB)).mono ?_
      rintro e w' ⟨rfl,rfl⟩
      go_wp2_with (fail)
      go_roundw
      case rel=>exact ⟨k+1,c1,_,hk2,by go_num,by rw [kM.out],kL,hown',hB'⟩
      case measure=>simp [intOf];omega
    · have hlen:=HO.out.len
      obtain ⟨j,rfl⟩:∃ j,k=j+1:=⟨k-1,by omega⟩
      have HV:Hid (val o=val xs+val ys):=HO.out.done hx hx2 (by omega) (by omega)
      have hu:=hown.lW HO.out.lt (by omega)
      have hol:o.length≤1000000000:=by omega
      clear hlen
      go_wp2_with (fail)
      refine (bL _ _ _ hu hol).mono ?_
      rintro e w' ⟨⟨z,rfl,hz,hf⟩,hB2⟩
      have hf2:Hid (d9 w.heap.size z):=hf.mono hB.size
      clear hf
      rw [HV.out] at hz
      replace hB:=Below.trans hB (Below.mono hB2 hB.size)
      go_wp2
      go_ret
      exact ⟨⟨_,rfl,hz,hf2.out⟩,hB⟩
set_option maxRecDepth 100000 in
theorem gD (w:World) (v u:Value) (n m:Nat) (h:Un w v n) (g:Un w u m) (hl:(limbs n).length≤100000000) (hl2:(limbs m).length≤100000000) (b:Bool) (hb:decide (m≤n)=b) (d:Nat) (hd:n-m=d) :
  Calls Tryz.prog 38 #[v,u] w fun e w'=>(∃ z,e = .returned (.tuple #[z,.bool b])∧Un w' z d∧d9 w.heap.size z)∧Below w.heap.size w w':=by
 obtain ⟨A,c,rfl,⟨hc,hm⟩,hx,hr⟩:=id h
 obtain ⟨A2,c2,rfl,⟨hc2,hm2⟩,hx2,hr2⟩:=id g
 clear hr hr2
 rcases Nat.lt_or_ge n m with hlt | hge
 · have HF:Hid (bQ (val (limbs n):Nat) (val (limbs m):Nat) = -1):=by rw [Hid,aG,aG];exact fu (Int.ofNat_lt.2 hlt)
   obtain rfl:d=0:=by omega
   obtain rfl:b=false:=by rw [← hb,decide_eq_false_iff_not];omega
   clear hb hd hlt
   go_enter Tryz.func38,Tryz.ntmps38
   go_wp2_with (fail)
   refine (dK _ _ _ _ _ h g (by omega) (by omega)).mono ?_
   rintro e w' ⟨rfl,rfl⟩
   rw [HF.out]
   go_wp2
   go_ret2
   exact ⟨⟨_,rfl,uA _,d9.mE _ _ _⟩,Below.refl _ _⟩
 · have HF:Hid (0≤bQ (val (limbs n):Nat) (val (limbs m):Nat)):=by
    rw [Hid,aG,aG]
    rcases Nat.lt_or_ge m n with h1 | h1
    · rw [fG (Int.ofNat_lt.2 h1)];decide
    · obtain rfl:n=m:=by omega
      rw [fZ];decide
   obtain rfl:b=true:=by rw [← hb,decide_eq_true_iff];omega
   have HD:=Lib.hid hd
   have HG:=Lib.hid hge
   have hll:=gV hge
   clear hb hd hge
   obtain ⟨K,hK⟩:∃ K,bQ (val (limbs n):Nat) (val (limbs m):Nat)=K:=⟨_,rfl⟩
   have hK0:0≤K:=by rw [← hK];exact HF.out
   clear HF
   go_enter Tryz.func38,Tryz.ntmps38
   go_wp2_with (fail)
   refine (dK _ _ _ _ _ h g (by omega) (by omega)).mono ?_
   rintro e w' ⟨rfl,rfl⟩
   rw [hK]
   clear hK
   go_wp2_with (fail)
   have hown0:Own (w.alloc (.cells #[] 43)) w.heap.size (.slice (some ⟨w.heap.size,0,none⟩) 0 0) []:=World.ownsRow_lit w #[] 0 (Nat.le_refl _) (Nat.zero_le _) rfl
   have hB0:Below w.heap.size w (w.alloc (.cells #[] 43)):=(Below.refl _ _).alloc (Nat.le_refl _) _
   go_loopw [6,7,8] (fun s cv i wr=>∃ (k cy:Nat) (o:List Nat),k≤(limbs n).length∧i = .int .i64 k∧cv = .int .u64 cy∧Hid (mK (limbs n) (limbs m) k o cy)∧Own wr w.heap.size s o∧Below w.heap.size w wr) (fun _ _ i _=>(limbs n).length-(intOf i).toNat)
   case atStart=>exact ⟨0,0,[],Nat.zero_le _,rfl,rfl,mK.start _ _,hown0,hB0⟩
   case round =>
    clear hown0 hB0
    obtain ⟨k,cy,o,hk,rfl,rfl,HO,hown,hB⟩:=hrel
    by_cases hd1:k<(limbs n).length
    · have h1:=aQ hx k
      have h2:=aQ hx2 k
      have h3:=HO.out.carry
      have hlen:=HO.out.len
      obtain ⟨x1,hx1⟩:∃ x1,(4294967296+lb (limbs n) k-lb (limbs m) k-cy)%4294967296=x1:=⟨_,rfl⟩
      obtain ⟨c1,hc1⟩:∃ c1,1-(4294967296+lb (limbs n) k-lb (limbs m) k-cy)/4294967296=c1:=⟨_,rfl⟩
      have kL:Hid (mK (limbs n) (limbs m) (k+1) (o++[x1]) c1):=by rw [Hid,← hx1,← hc1];exact HO.out.step hx hx2
      obtain ⟨v',w',hrun,hown',hB'⟩:=aY hB hown ((4294967296+((lb (limbs n) k:Nat):Int)-((lb (limbs m) k:Nat):Int)-(cy:Int))%4294967296) x1 (by rw [← hx1];omega) (by rw [← hx1];exact Nat.mod_lt _ (by decide)) (by omega)
      obtain ⟨t1,t2,t3⟩:=aU hrun
      have kM:Hid (1-(4294967296+((lb (limbs n) k:Nat):Int)-((lb (limbs m) k:Nat):Int)-(cy:Int))/4294967296=(c1:Int)):=by rw [Hid,← hc1];omega
      clear hrun hx1 hc1 hlen
      go_wp2_with (fail)
      refine (aC _ _ (limbs n) _ k rfl (U.below h hB)).mono ?_
      rintro e w' ⟨rfl,rfl⟩
      go_wp2_with (fail)
      refine (aC _ _ (limbs m) _ k rfl (U.below g hB)).mono ?_
      rintro e w' ⟨rfl,rfl⟩
      go_wp2_with (fail)
      go_roundw
      case rel=>exact ⟨k+1,c1,_,by omega,by go_num,by rw [kM.out],kL,hown',hB'⟩
      case measure=>simp [intOf];omega
    · have hlen:=HO.out.len
      obtain rfl:k=(limbs n).length:=by omega
      have HV:Hid (val o=d):=by rw [Hid,HO.out.done hll (by rw [aG,aG];exact HG.out),aG,aG];exact HD.out
      have hu:=hown.lW HO.out.lt (by omega)
      have hol:o.length≤1000000000:=by omega
      clear hlen
      go_wp2_with (fail)
      refine (bL _ _ _ hu hol).mono ?_
      rintro e w' ⟨⟨z,rfl,hz,hf⟩,hB2⟩
      have hf2:Hid (d9 w.heap.size z):=hf.mono hB.size
      clear hf
      have hz2:Un w' z d:=by rw [← HV.out];exact hz
      replace hB:=Below.trans hB (Below.mono hB2 hB.size)
      clear hz
      go_wp2
      go_ret2
      exact ⟨⟨_,rfl,hz2,hf2.out⟩,hB⟩
set_option maxRecDepth 100000 in
theorem gF (w:World) (v:Value) (n:Nat) (k0:Nat) (hk:k0≤100000000) (h:Un w v n) (hl:(limbs n).length≤100000000) :
  Calls Tryz.prog 39 #[v,.int .i64 (k0:Int)] w fun e w'=>(∃ u,e = .returned u∧Un w' u (n*2^k0)∧d9 w.heap.size u)∧Below w.heap.size w w':=by
 obtain ⟨A,c,rfl,⟨hc,hm⟩,hx,hr⟩:=id h
 clear hr
 obtain ⟨Q,hQ⟩:∃ Q,k0/32=Q:=⟨_,rfl⟩
 obtain ⟨S,hS⟩:∃ S,k0%32=S:=⟨_,rfl⟩
 have eQ:(k0:Int)/32=(Q:Int):=by omega
 have eS:(k0:Int)%32=(S:Int):=by omega
 have HK:Hid (k0=32*Q+S):=by rw [Hid];omega
 have Ih:S<32:=by omega
 have JY:Q≤100000000:=by omega
 go_enter Tryz.func39,Tryz.ntmps39
 go_wp2_with (fail)
 have hown0:Own (w.alloc (.cells #[] 43)) w.heap.size (.slice (some ⟨w.heap.size,0,none⟩) 0 0) []:=World.ownsRow_lit w #[] 0 (Nat.le_refl _) (Nat.zero_le _) rfl
 have hB0:Below w.heap.size w (w.alloc (.cells #[] 43)):=(Below.refl _ _).alloc (Nat.le_refl _) _
 go_loopw [5,8] (fun s i wr=>∃ k:Nat,k≤Q∧i = .int .i64 k∧Own wr w.heap.size s (List.replicate k 0)∧Below w.heap.size w wr) (fun _ i _=>Q-(intOf i).toNat)
 case atStart=>exact ⟨0,Nat.zero_le _,rfl,hown0,hB0⟩
 case round =>
  clear hown0 hB0
  obtain ⟨k,hk1,rfl,hown,hB⟩:=hrel
  by_cases hd1:k<Q
  · obtain ⟨v',w',hrun,hown',hB'⟩:=aY hB hown 0 0 rfl (by decide) (by simp;omega)
    obtain ⟨t1,t2,t3⟩:=aU hrun
    rw [← List.replicate_succ'] at hown'
    clear hrun
    go_wp2
    go_roundw
    case rel=>exact ⟨k+1,by omega,by go_num,hown',hB'⟩
    case measure=>simp [intOf];omega
  · obtain rfl:k=Q:=by omega
    go_wp2_with (fail)
    go_loop [7,9] (fun b i=>∃ j:Nat,j≤S∧i = .int .i64 j∧b = .int .u64 (2^j:Nat)) (fun _ i=>S-(intOf i).toNat)
    case atStart=>exact ⟨0,Nat.zero_le _,rfl,rfl⟩
    case round =>
     obtain ⟨j,hj,rfl,rfl⟩:=hrel
     have hp1:2^j<4294967296:=Nat.lt_of_le_of_lt (Nat.pow_le_pow_right (by decide) (show j≤31 by omega)) (by decide)
     by_cases hd2:j<S
     · have HN:Hid (2*((2^j:Nat):Int)=((2^(j+1):Nat):Int)):=by rw [Hid,Nat.pow_succ];omega
       obtain ⟨X,hX⟩:∃ X,2^j=X:=⟨_,rfl⟩
       rw [hX] at HN hp1
       rw [hX]
       clear hX
       go_wp2
       go_round
       case rel=>exact ⟨j+1,by omega,by go_num,by rw [← HN.out]⟩
       case measure=>simp [intOf];omega
     · obtain rfl:j=S:=by omega
       have hp0:0<2^j:=Nat.two_pow_pos j
       have EH:Hid (n*2^k0=n*2^j*4294967296^k):=by
        rw [Hid,HK.out,pM,Nat.pow_add,Nat.mul_comm (2^(32*k)),← Nat.mul_assoc]
       obtain ⟨P,hP⟩:∃ P,2^j=P:=⟨_,rfl⟩
       rw [hP] at hp0 hp1 EH
       rw [hP]
       clear hP
       go_wp2_with (fail)
       have EI:Hid (jZ (limbs n) k P 0 (List.replicate k 0) 0):=jZ.start _ _ _ hp0
       go_loopw [5,6,10] (fun s cv i wr=>∃ (m cy:Nat) (o:List Nat),m≤(limbs n).length+1∧i = .int .i64 m∧cv = .int .u64 cy∧Hid (jZ (limbs n) k P m o cy)∧Own wr w.heap.size s o∧Below w.heap.size w wr) (fun _ _ i _=>(limbs n).length+1-(intOf i).toNat)
       case atStart=>exact ⟨0,0,_,Nat.zero_le _,rfl,rfl,EI,hown,hB⟩
       case round =>
        clear EI hown hB
        obtain ⟨m,cy,o,hm1,rfl,rfl,HO,hown,hB⟩:=hrel
        have hlen:=HO.out.len
        by_cases hd3:m≤(limbs n).length
        · have h1:=aQ hx m
          have h3:=HO.out.carry
          have h4:lb (limbs n) m*P+cy<4294967296*P:=by
           have:=Nat.mul_le_mul_right P (show lb (limbs n) m+1≤4294967296 by omega)
           rw [Nat.add_mul] at this;omega
          have e1:((lb (limbs n) m:Nat):Int)*(P:Int)=((lb (limbs n) m*P:Nat):Int):=by rw [Int.natCast_mul]
          have OD:((lb (limbs n) m:Nat):Int)*(P:Int)+(cy:Int)<18446744073709551616:=by rw [e1];omega
          have hm4:0≤((lb (limbs n) m:Nat):Int)*(P:Int):=by rw [e1];omega
          obtain ⟨x1,hx1⟩:∃ x1,(lb (limbs n) m*P+cy)%4294967296=x1:=⟨_,rfl⟩
          obtain ⟨c1,hc1⟩:∃ c1,(lb (limbs n) m*P+cy)/4294967296=c1:=⟨_,rfl⟩
          have kL:Hid (jZ (limbs n) k P (m+1) (o++[x1]) c1):=by rw [Hid,← hx1,← hc1];exact HO.out.step hx
          obtain ⟨v',w',hrun,hown',hB'⟩:=aY hB hown ((((lb (limbs n) m:Nat):Int)*(P:Int)+(cy:Int))%4294967296) x1 (by rw [← hx1,e1];omega) (by rw [← hx1];exact Nat.mod_lt _ (by decide)) (by omega)
          obtain ⟨t1,t2,t3⟩:=aU hrun
          have kM:Hid ((((lb (limbs n) m:Nat):Int)*(P:Int)+(cy:Int))/4294967296=(c1:Int)):=by rw [Hid,← hc1,e1];omega
          clear hrun hx1 hc1 hlen e1 h4
          go_wp2_with (fail)
          refine (aC _ _ (limbs n) _ m rfl (U.below h hB)).mono ?_
          rintro e w' ⟨rfl,rfl⟩
          go_wp2_with (fail)
          go_roundw
          case rel=>exact ⟨m+1,c1,_,by omega,by go_num,by rw [kM.out],kL,hown',hB'⟩
          case measure=>simp [intOf];omega
        · obtain rfl:m=(limbs n).length+1:=by omega
          have HV:Hid (val o=n*2^k0):=by rw [Hid,HO.out.done hx (Nat.le_refl _) hp1,aG,EH.out]
          have hu:=hown.lW HO.out.lt (by omega)
          have hol:o.length≤1000000000:=by omega
          clear hlen
          go_wp2_with (fail)
          refine (bL _ _ _ hu hol).mono ?_
          rintro e w' ⟨⟨z,rfl,hz,hf⟩,hB2⟩
          have hf2:Hid (d9 w.heap.size z):=hf.mono hB.size
          clear hf
          have hz2:Un w' z (n*2^k0):=by rw [← HV.out];exact hz
          replace hB:=Below.trans hB (Below.mono hB2 hB.size)
          clear hz
          go_wp2
          go_ret
          exact ⟨⟨_,rfl,hz2,hf2.out⟩,hB⟩
theorem l9 (w:World) (v u:Value) (n m:Nat) (h:Un w v n) (g:Un w u m) (hm:(limbs n).length≤100000000) (hm2:(limbs m).length≤100000000) (s:Nat) (hs:n+m=s) :
  Calls Tryz.prog 30 #[v,u] w fun e w'=>∃ z,e = .returned z∧Un w' z s∧d9 w.heap.size z∧Ext w w':=by
 subst hs
 have:=gB w v u _ _ h g hm hm2
 rw [aG,aG] at this
 exact this.mono fun e w' ⟨⟨z,he,hz,hf⟩,hb⟩=>⟨z,he,hz,hf,hb⟩
theorem iL (w:World) (v u:Value) (n m:Nat) (h:Un w v n) (g:Un w u m) (hm:(limbs n).length≤100000000) (hm2:(limbs m).length≤100000000) (b:Bool) (hb:decide (m≤n)=b) (d:Nat) (hd:n-m=d) :
  Calls Tryz.prog 38 #[v,u] w fun e w'=>∃ z,e = .returned (.tuple #[z,.bool b])∧Un w' z d∧d9 w.heap.size z∧Ext w w' :=
 (gD w v u n m h g hm hm2 b hb d hd).mono fun e w' ⟨⟨z,he,hz,hf⟩,hb⟩=>⟨z,he,hz,hf,hb⟩
theorem iM (w:World) (v:Value) (n:Nat) (k:Nat) (h:Un w v n) (hk1:k≤100000000) (hl:(limbs n).length≤100000000) (s:Nat) (hs:n*2^k=s) :
  Calls Tryz.prog 39 #[v,.int .i64 (k:Int)] w fun e w'=>∃ z,e = .returned z∧Un w' z s∧d9 w.heap.size z∧Ext w w':=by
 subst hs
 exact (gF w v n k hk1 h hl).mono fun e w' ⟨⟨z,he,hz,hf⟩,hb⟩=>⟨z,he,hz,hf,hb⟩
end Go.Proofs.YtnilonnkcbkdmaaGreatDoor
namespace Go.Proofs.YtnilonnkcbkdmaaGreatDoor
open Go.RowKit
set_option linter.unusedVariables false
set_option maxHeartbeats 400000
set_option maxRecDepth 100000 in
set_option maxHeartbeats 8000000 in
theorem jU (w:World) (va vb:Value) (a b q r:Nat) (bn:Un w va a) (bC:Un w vb b) (hla:(limbs a).length≤200) (hlb:(limbs b).length≤200) (Iq:b≠0) (hq:a/b=q) (hr:a%b=r) :
  Calls Tryz.prog 36 #[va,vb] w fun e w'=>Dv w w' e q r:=by
 unfold Dv
 have HB:=Ext.refl w
 have sN:=oI Iq
 have uZ:=Lib.hid hlb
 obtain ⟨Ab,cb,rfl,hcb⟩:=U.shape (U.aL bC)
 obtain ⟨Aa,ca,rfl,hca⟩:=U.shape (U.aL bn)
 obtain ⟨Lb,Ir⟩:∃ Lb,(limbs b).length=Lb:=⟨_,rfl⟩
 obtain ⟨La,Bh⟩:∃ La,(limbs a).length=La:=⟨_,rfl⟩
 obtain ⟨bl,hbl⟩:∃ bl,bS a=bl:=⟨_,rfl⟩
 rw [Ir] at bC hlb sN ⊢
 rw [Bh] at bn hla ⊢
 have hL0:((Lb:Int)==0)=false:=by rw [beq_eq_false_iff_ne];omega
 have hL1:¬ Lb=0:=by omega
 have gG:bl≤32*La:=by rw [← hbl,← Bh];exact jQ a
 have kG:=Lib.hid (fun W (h:Un W (.slice Aa La ca) a)=>kC W _ a h (by omega) (bl:Int) (by rw [hbl]))
 have kX:=Lib.hid (fun W (j:Nat) (hj:j≤10000) k (hk:a/2^j%2=k) (h:Un W (.slice Aa La ca) a)=>l8 W _ a (j:Int) h (by omega) (by omega) (k:Int) (by rw [mX,hk]))
 have Ew:Hid (oz a b La bl (List.replicate La 0)):=by
  refine ⟨by simp,by simp,?_⟩
  rw [bM,Nat.div_eq_of_lt (show a<2^bl by rw [← hbl];exact dI a),Nat.zero_div,Nat.zero_mul]
 have Dk:Hid (a/2^bl%b=0):=by rw [Hid,Nat.div_eq_of_lt (show a<2^bl by rw [← hbl];exact dI a),Nat.zero_mod]
 have AJ:Hid (∀ o,oz a b La 0 o→val o=q):=fun o h=>by
  have:=h.val
  rwa [Nat.pow_zero,Nat.div_one,Nat.mul_one,hq] at this
 have HDR:Hid (∀ r',a/2^0%b=r'→r'=r):=fun r' h=>by
  rw [Nat.pow_zero,Nat.div_one,hr] at h;exact h.symm
 have HB0:=Lib.hid (show 0<b by omega)
 have jr:Hid (∀ x,x≤2*b+1→(limbs x).length≤300):=fun x h=>by
  have h1:(limbs b).length≤200:=by omega
  have h2:=iK h1 h1
  have h3:(limbs 1).length≤1:=by rw [dA 1 (by decide) (by decide)];simp
  have h4:=iK h2 h3
  exact Nat.le_trans (gV (show x≤b+b+1 by omega)) (Nat.le_trans h4 (by decide))
 obtain ⟨i0,hi,hz0,hz1,hz2⟩:=info_parts iT
 obtain ⟨B,hB⟩:∃ B,w.heap.size=B:=⟨_,rfl⟩
 have pW:=Lib.hid hB
 clear Ir Bh hbl hq hr hcb hca sN Iq
 have ha0:=bn
 have hb0:=bC
 go_enter Tryz.func36,Tryz.ntmps36
 go_wp2_with (at_make;refine wpList_make_full _ rfl _ _ 22 rfl w.heap.size 43 i0 (.int .u32 0) 1 Tryz.underlying22 hi hz0 hz1 _ _ _ _ La rfl rfl (by omega) (by omega) (by rw [hz2];omega) (by unfold maxLen;omega) (Nat.le_refl _) ?_;intro w1 hown hgrow)
 have ho0:Own w1 w.heap.size (.slice (some ⟨w.heap.size,0,none⟩) La La) (List.replicate La 0):=by
  have:=Own.zeros hown
  rwa [List.length_replicate] at this
 have hE0:Ext w w1:=Below.grown (Ext.refl w) hgrow (Nat.le_refl _) (fun _ h=>by cases h)
 rw [hB] at ho0
 replace bn:=U.below (U.aL bn) hE0
 replace bC:=U.below (U.aL bC) hE0
 clear hown hgrow hi hz0 hz1 hz2 i0 HB
 have Iu:=ho0.block.2
 go_wp2_with (fail)
 refine (kG.out _ (U.alloc (U.aL bn) _)).mono ?_
 rintro e w2 ⟨rfl,hB2⟩
 have hR0:Un w2 (.slice (some ⟨w1.heap.size,0,none⟩) 0 0) 0:=U.un (U.mE _ _ _) bf
 have Iw:d9 (B+1) (.slice (some ⟨w1.heap.size,0,none⟩) 0 0):=fun ad n c e=>by
  injection e with e1 _ _
  injection e1 with e1
  subst e1
  exact Iu
 replace ho0:=(ho0.alloc (.cells #[] 43)).ext hB2
 replace hE0:=(hE0.alloc (.cells #[] 43)).below hB2
 replace bn:=U.below (U.alloc (U.aL bn) _) hB2
 replace bC:=U.below (U.alloc (U.aL bC) _) hB2
 clear hB2 Iu kG
 go_wp2
 go_loopw [8,9] (fun s8 s9 wr=>∃ (j:Nat) (z:Int) (R:Nat) (o:List Nat),j≤bl∧s9 = .int .i64 z∧z=(j:Int)-1∧Un wr s8 R∧d9 (B+1) s8∧Hid (a/2^j%b=R)∧Hid (oz a b La j o)∧Own wr B (.slice (some ⟨B,0,none⟩) La La) o∧Ext w wr) (fun _ s9 _=>(intOf s9+1).toNat)
 case atStart=>exact ⟨bl,_,0,_,Nat.le_refl _,rfl,rfl,hR0,Iw,Dk,Ew,ho0,hE0⟩
 case round =>
  clear hR0 Iw Dk Ew ho0 bn bC hE0
  obtain ⟨j,z,R,o,hj,rfl,hz,hR,hf,jG,HO,hown,hE⟩:=hrel
  have bn:=U.below (U.aL ha0) hE
  have bC:=U.below (U.aL hb0) hE
  cases j with
  | zero =>
   obtain rfl:z = -1:=by omega
   obtain rfl:=HDR.out R jG.out
   have hu:=hown.lW HO.out.lt (by rw [HO.out.len];omega)
   have hlo:=HO.out.len
   have Iy:=Lib.hid (iq _ _ o hu (by omega) q (AJ.out o HO.out))
   have Iz:=Lib.hid (fun W (h:Un W u8 R)=>iq W _ (limbs R) h (by have:=jr.out R (by have:=jG.out;have:=Nat.mod_lt (a/2^0) HB0.out;omega);omega) R (aG R))
   clear hu hlo hown HO AJ HDR hz bn bC jr hf
   go_wp2_with (fail)
   refine Iy.out.mono ?_
   rintro e w3 ⟨v3,rfl,hv3,hB3⟩
   replace hR:=U.below (U.aL hR) hB3
   replace hE:=hE.below hB3
   clear hB3 Iy
   go_wp2_with (fail)
   refine (Iz.out _ hR).mono ?_
   rintro e w4 ⟨v4,rfl,hv4,hB4⟩
   replace hE:=hE.below hB4
   have HF:Hid (∃ x' y',Ending.returned (.tuple #[v3,v4,.int .i64 0]) = .returned (.tuple #[x',y',.int .i64 0])∧Un w4 x' q∧Un w4 y' R):=⟨_,_,rfl,U.below (U.aL hv3) hB4,hv4⟩
   clear hB4 Iz hv3 hv4 hR
   go_wp2
   go_ret3
   exact ⟨HF.out,hE⟩
  | succ j =>
   obtain rfl:z=(j:Int):=by omega
   clear hz
   have hwr:=hown.block.2
   have hRb:R<b:=by rw [← jG.out];exact Nat.mod_lt _ HB0.out
   obtain ⟨R1,ku⟩:∃ R1,R*2^1=R1:=⟨_,rfl⟩
   have HR1:=Lib.hid ku
   have hj2:j≤10000:=by omega
   obtain ⟨k,hk⟩:∃ k,j/32=k:=⟨_,rfl⟩
   obtain ⟨s,hs⟩:∃ s,j%32=s:=⟨_,rfl⟩
   obtain ⟨P,hP⟩:∃ P,2^s=P:=⟨_,rfl⟩
   obtain ⟨x,hxe⟩:∃ x,lb o k=x:=⟨_,rfl⟩
   have hkl:k<La:=by omega
   have gH:k<o.length:=by rw [HO.out.len];exact hkl
   have k1:(j:Int)/32=(k:Int):=by omega
   have k2:(j:Int).tdiv 32=(k:Int):=by rw [Int.tdiv_eq_ediv_of_nonneg (Int.natCast_nonneg _)];exact k1
   have k3:(j:Int)%32=(s:Int):=by omega
   have k4:(j:Int).tmod 32=(s:Int):=by rw [Int.tmod_eq_emod_of_nonneg (Int.natCast_nonneg _)];exact k3
   have k5:(0:Int)≤(k:Int):=Int.natCast_nonneg k
   have k6:(k:Int)<(La:Int):=by omega
   have k7:(0:Int)≤(s:Int):=Int.natCast_nonneg s
   have k8:=jB (show k≤1000000 by omega)
   have k9:=jB (show s≤1000000 by omega)
   have hPb:P≤2147483648:=by
    rw [← hP]
    show 2^s≤2^31
    exact Nat.pow_le_pow_right (by decide) (by omega)
   have p1:(2:Int)^s=(P:Int):=by rw [← hP,Int.natCast_pow];rfl
   have p2:=gN (show P<4294967296 by omega)
   have p3:=gP (show P<4294967296 by omega)
   rcases (show a/2^j%2=0∨a/2^j%2=1 by omega) with hbit | hbit
   · obtain ⟨R2,hR2⟩:∃ R2,R1=R2:=⟨_,rfl⟩
     subst hR2
     by_cases hge:b≤R1
     · obtain ⟨d,hd⟩:∃ d,R1-b=d:=⟨_,rfl⟩
       obtain ⟨h1,h2,h3⟩:=HO.out.more HB0.out 0 R k s P x hbit jG.out (by omega) hk hs hP hxe hkl
       obtain ⟨y,hy⟩:∃ y,x+P=y:=⟨_,rfl⟩
       rw [hy] at h1 h2
       have HST:=Lib.hid h2
       have HRR:Hid (a/2^j%b=d):=by rw [Hid,h3];omega
       have q1:(x:Int)+(P:Int)=(y:Int):=by omega
       have q2:=gN h1
       have q3:=gP h1
       have HH:=Lib.hid (And.intro hj2 (And.intro hbit (And.intro hge (And.intro hd (And.intro gH (And.intro hxe (And.intro hRb (And.intro ku (And.intro gG (And.intro hlb hwr))))))))))
       clear hk hs hP h1 h2 h3 hy HO jG hj2 hbit hge hd gH hxe hRb ku hkl hPb gG hlb hwr
       go_wp2_with (fail)
       refine (iM _ _ R 1 hR (by decide) (by have:=HH.out;have:=jr.out R (by omega);omega) R1 HR1.out).mono ?_
       rintro e w3 ⟨v3,rfl,hv3,hf3,hB3⟩
       replace hf3:d9 (B+1) v3:=hf3.mono HH.out.2.2.2.2.2.2.2.2.2.2
       replace bn:=U.below (U.aL bn) hB3
       replace bC:=U.below (U.aL bC) hB3
       replace hown:=hown.ext hB3
       replace hE:=hE.below hB3
       clear hB3 hR hf
       go_wp2_with (fail)
       refine (kX.out _ j HH.out.1 0 HH.out.2.1 bn).mono ?_
       rintro e w4 ⟨rfl,hB4⟩
       replace bn:=U.below (U.aL bn) hB4
       replace bC:=U.below (U.aL bC) hB4
       replace hv3:=U.below (U.aL hv3) hB4
       replace hown:=hown.ext hB4
       replace hE:=hE.below hB4
       clear hB4
       have hv5:=hv3
       have nT:=hf3
       clear hv3 hf3
       have jD:=hown.block.2
       go_wp2_with (fail)
       refine (iL _ _ _ R1 b hv5 bC (by have:=HH.out;have:=HR1.out;have:=jr.out R1 (by omega);omega) (by have:=uZ.out;omega) true (by rw [decide_eq_true_iff];exact HH.out.2.2.1) d HH.out.2.2.2.1).mono ?_
       rintro e w6 ⟨v6,rfl,hv6,gI,aZ⟩
       replace gI:d9 (B+1) v6:=gI.mono jD
       replace hown:=hown.ext aZ
       replace hE:=hE.below aZ
       replace hv5:=U.below (U.aL hv5) aZ
       clear aZ bn bC
       have hcz:=hown.rd.2 k HH.out.2.2.2.2.1
       rw [HH.out.2.2.2.2.2.1] at hcz
       have hfz:=hown.frozen' k
       have qH:But B w6 (w6.setCell ⟨B,k,none⟩ (.int .u32 (y:Nat))):=(But.refl B w6).setCell k _
       have hown2:=hown.set' k y
       have hv7:=U.apart (U.aL hv6) gI (Nat.lt_succ_self B) qH
       have hE2:=hE.setCell (p:=⟨B,k,none⟩) (by rw [pW.out];exact Nat.le_refl _) (.int .u32 (y:Nat))
       clear hv5 nT hv6 hown hE qH jD
       go_wp2
       go_region
       all_goals
        go_wp2
        go_roundw
        case rel=>exact ⟨j,_,d,_,by omega,rfl,rfl,hv7,gI,HRR,HST,hown2.drew,hE2.drew⟩
        case measure=>simp [intOf]
     · obtain ⟨d,hd⟩:∃ d,R1-b=d:=⟨_,rfl⟩
       obtain ⟨h2,h3⟩:=HO.out.none 0 R hbit jG.out (by omega)
       have HST:=Lib.hid h2
       have HRR:Hid (a/2^j%b=R1):=by rw [Hid,h3];omega
       have HH:=Lib.hid (And.intro hj2 (And.intro hbit (And.intro hge (And.intro hd (And.intro gH (And.intro hxe (And.intro hRb (And.intro ku (And.intro gG (And.intro hlb hwr))))))))))
       clear hk hs hP h2 h3 HO jG hj2 hbit hge hd gH hxe hRb ku hkl hPb gG hlb hwr
       go_wp2_with (fail)
       refine (iM _ _ R 1 hR (by decide) (by have:=HH.out;have:=jr.out R (by omega);omega) R1 HR1.out).mono ?_
       rintro e w3 ⟨v3,rfl,hv3,hf3,hB3⟩
       replace hf3:d9 (B+1) v3:=hf3.mono HH.out.2.2.2.2.2.2.2.2.2.2
       replace bn:=U.below (U.aL bn) hB3
       replace bC:=U.below (U.aL bC) hB3
       replace hown:=hown.ext hB3
       replace hE:=hE.below hB3
       clear hB3 hR hf
       go_wp2_with (fail)
       refine (kX.out _ j HH.out.1 0 HH.out.2.1 bn).mono ?_
       rintro e w4 ⟨rfl,hB4⟩
       replace bn:=U.below (U.aL bn) hB4
       replace bC:=U.below (U.aL bC) hB4
       replace hv3:=U.below (U.aL hv3) hB4
       replace hown:=hown.ext hB4
       replace hE:=hE.below hB4
       clear hB4
       have hv5:=hv3
       have nT:=hf3
       clear hv3 hf3
       have jD:=hown.block.2
       go_wp2_with (fail)
       refine (iL _ _ _ R1 b hv5 bC (by have:=HH.out;have:=HR1.out;have:=jr.out R1 (by omega);omega) (by have:=uZ.out;omega) false (by rw [decide_eq_false_iff_not];exact HH.out.2.2.1) d HH.out.2.2.2.1).mono ?_
       rintro e w6 ⟨v6,rfl,hv6,gI,aZ⟩
       replace gI:d9 (B+1) v6:=gI.mono jD
       replace hown:=hown.ext aZ
       replace hE:=hE.below aZ
       replace hv5:=U.below (U.aL hv5) aZ
       clear aZ bn bC
       clear hv6 gI jD
       go_wp2
       go_roundw
       case rel=>exact ⟨j,_,R1,_,by omega,rfl,rfl,hv5,nT,HRR,HST,hown,hE⟩
       case measure=>simp [intOf]
   · obtain ⟨R2,hR2⟩:∃ R2,R1+1=R2:=⟨_,rfl⟩
     have HR2:=Lib.hid hR2
     by_cases hge:b≤R2
     · obtain ⟨d,hd⟩:∃ d,R2-b=d:=⟨_,rfl⟩
       obtain ⟨h1,h2,h3⟩:=HO.out.more HB0.out 1 R k s P x hbit jG.out (by omega) hk hs hP hxe hkl
       obtain ⟨y,hy⟩:∃ y,x+P=y:=⟨_,rfl⟩
       rw [hy] at h1 h2
       have HST:=Lib.hid h2
       have HRR:Hid (a/2^j%b=d):=by rw [Hid,h3];omega
       have q1:(x:Int)+(P:Int)=(y:Int):=by omega
       have q2:=gN h1
       have q3:=gP h1
       have HH:=Lib.hid (And.intro hj2 (And.intro hbit (And.intro hge (And.intro hd (And.intro gH (And.intro hxe (And.intro hRb (And.intro ku (And.intro gG (And.intro hlb hwr))))))))))
       clear hk hs hP h1 h2 h3 hy HO jG hj2 hbit hge hd gH hxe hRb ku hkl hPb gG hlb hwr hR2
       go_wp2_with (fail)
       refine (iM _ _ R 1 hR (by decide) (by have:=HH.out;have:=jr.out R (by omega);omega) R1 HR1.out).mono ?_
       rintro e w3 ⟨v3,rfl,hv3,hf3,hB3⟩
       replace hf3:d9 (B+1) v3:=hf3.mono HH.out.2.2.2.2.2.2.2.2.2.2
       replace bn:=U.below (U.aL bn) hB3
       replace bC:=U.below (U.aL bC) hB3
       replace hown:=hown.ext hB3
       replace hE:=hE.below hB3
       clear hB3 hR hf
       go_wp2_with (fail)
       refine (kX.out _ j HH.out.1 1 HH.out.2.1 bn).mono ?_
       rintro e w4 ⟨rfl,hB4⟩
       replace bn:=U.below (U.aL bn) hB4
       replace bC:=U.below (U.aL bC) hB4
       replace hv3:=U.below (U.aL hv3) hB4
       replace hown:=hown.ext hB4
       replace hE:=hE.below hB4
       clear hB4
       have hl:=Lib.hid (jR w4)
       have hw4:=hown.block.2
       go_wp2_with (fail)
       refine (l9 _ _ _ R1 1 (U.alloc (U.aL hv3) _) hl.out (by have:=HH.out;have:=HR1.out;have:=jr.out R1 (by omega);omega) (by have:=qi;rw [dA 1 (by decide) (by decide)];simp) R2 HR2.out).mono ?_
       rintro e w5 ⟨v5,rfl,hv5,sO,bH⟩
       have nT:d9 (B+1) v5:=sO.mono (by simp;omega)
       replace bn:=U.below (U.alloc (U.aL bn) _) bH
       replace bC:=U.below (U.alloc (U.aL bC) _) bH
       replace hown:=(hown.alloc _).ext bH
       replace hE:=(hE.alloc _).below bH
       clear bH sO hv3 hf3 hl hw4
       have jD:=hown.block.2
       go_wp2_with (fail)
       refine (iL _ _ _ R2 b hv5 bC (by have:=HH.out;have:=HR1.out;have:=HR2.out;have:=jr.out R2 (by omega);omega) (by have:=uZ.out;omega) true (by rw [decide_eq_true_iff];exact HH.out.2.2.1) d HH.out.2.2.2.1).mono ?_
       rintro e w6 ⟨v6,rfl,hv6,gI,aZ⟩
       replace gI:d9 (B+1) v6:=gI.mono jD
       replace hown:=hown.ext aZ
       replace hE:=hE.below aZ
       replace hv5:=U.below (U.aL hv5) aZ
       clear aZ bn bC
       have hcz:=hown.rd.2 k HH.out.2.2.2.2.1
       rw [HH.out.2.2.2.2.2.1] at hcz
       have hfz:=hown.frozen' k
       have qH:But B w6 (w6.setCell ⟨B,k,none⟩ (.int .u32 (y:Nat))):=(But.refl B w6).setCell k _
       have hown2:=hown.set' k y
       have hv7:=U.apart (U.aL hv6) gI (Nat.lt_succ_self B) qH
       have hE2:=hE.setCell (p:=⟨B,k,none⟩) (by rw [pW.out];exact Nat.le_refl _) (.int .u32 (y:Nat))
       clear hv5 nT hv6 hown hE qH jD
       go_wp2
       go_region
       all_goals
        go_wp2
        go_roundw
        case rel=>exact ⟨j,_,d,_,by omega,rfl,rfl,hv7,gI,HRR,HST,hown2.drew,hE2.drew⟩
        case measure=>simp [intOf]
     · obtain ⟨d,hd⟩:∃ d,R2-b=d:=⟨_,rfl⟩
       obtain ⟨h2,h3⟩:=HO.out.none 1 R hbit jG.out (by omega)
       have HST:=Lib.hid h2
       have HRR:Hid (a/2^j%b=R2):=by rw [Hid,h3];omega
       have HH:=Lib.hid (And.intro hj2 (And.intro hbit (And.intro hge (And.intro hd (And.intro gH (And.intro hxe (And.intro hRb (And.intro ku (And.intro gG (And.intro hlb hwr))))))))))
       clear hk hs hP h2 h3 HO jG hj2 hbit hge hd gH hxe hRb ku hkl hPb gG hlb hwr hR2
       go_wp2_with (fail)
       refine (iM _ _ R 1 hR (by decide) (by have:=HH.out;have:=jr.out R (by omega);omega) R1 HR1.out).mono ?_
       rintro e w3 ⟨v3,rfl,hv3,hf3,hB3⟩
       replace hf3:d9 (B+1) v3:=hf3.mono HH.out.2.2.2.2.2.2.2.2.2.2
       replace bn:=U.below (U.aL bn) hB3
       replace bC:=U.below (U.aL bC) hB3
       replace hown:=hown.ext hB3
       replace hE:=hE.below hB3
       clear hB3 hR hf
       go_wp2_with (fail)
       refine (kX.out _ j HH.out.1 1 HH.out.2.1 bn).mono ?_
       rintro e w4 ⟨rfl,hB4⟩
       replace bn:=U.below (U.aL bn) hB4
       replace bC:=U.below (U.aL bC) hB4
       replace hv3:=U.below (U.aL hv3) hB4
       replace hown:=hown.ext hB4
       replace hE:=hE.below hB4
       clear hB4
       have hl:=Lib.hid (jR w4)
       have hw4:=hown.block.2
       go_wp2_with (fail)
       refine (l9 _ _ _ R1 1 (U.alloc (U.aL hv3) _) hl.out (by have:=HH.out;have:=HR1.out;have:=jr.out R1 (by omega);omega) (by have:=qi;rw [dA 1 (by decide) (by decide)];simp) R2 HR2.out).mono ?_
       rintro e w5 ⟨v5,rfl,hv5,sO,bH⟩
       have nT:d9 (B+1) v5:=sO.mono (by simp;omega)
       replace bn:=U.below (U.alloc (U.aL bn) _) bH
       replace bC:=U.below (U.alloc (U.aL bC) _) bH
       replace hown:=(hown.alloc _).ext bH
       replace hE:=(hE.alloc _).below bH
       clear bH sO hv3 hf3 hl hw4
       have jD:=hown.block.2
       go_wp2_with (fail)
       refine (iL _ _ _ R2 b hv5 bC (by have:=HH.out;have:=HR1.out;have:=HR2.out;have:=jr.out R2 (by omega);omega) (by have:=uZ.out;omega) false (by rw [decide_eq_false_iff_not];exact HH.out.2.2.1) d HH.out.2.2.2.1).mono ?_
       rintro e w6 ⟨v6,rfl,hv6,gI,aZ⟩
       replace gI:d9 (B+1) v6:=gI.mono jD
       replace hown:=hown.ext aZ
       replace hE:=hE.below aZ
       replace hv5:=U.below (U.aL hv5) aZ
       clear aZ bn bC
       clear hv6 gI jD
       go_wp2
       go_roundw
       case rel=>exact ⟨j,_,R2,_,by omega,rfl,rfl,hv5,nT,HRR,HST,hown,hE⟩
       case measure=>simp [intOf]
end Go.Proofs.YtnilonnkcbkdmaaGreatDoor
namespace Go.Proofs.YtnilonnkcbkdmaaGreatDoor
open Go.RowKit
set_option linter.unusedVariables false
set_option linter.unusedSimpArgs false
set_option maxHeartbeats 400000
namespace EJ
theorem jH (u:Array Value) (X:World):(callFunc 36 u).run Tryz.prog X = .ok (.enter 36 u) X:=Pl.enters Tryz.func36 (by kernel_rfl) rfl u X
end EJ
open EJ
end Go.Proofs.YtnilonnkcbkdmaaGreatDoor
namespace Go.Proofs.YtnilonnkcbkdmaaGreatDoor
open Go.RowKit
set_option linter.unusedVariables false
set_option maxHeartbeats 400000
theorem Ext.uJ {w0 w:World} (h:Ext w0 w) {N:Nat} (hN:w0.heap.size≤N) (new:Array Value):Ext w0 (w.setRow N new):=below_setRow h hN new
end Go.Proofs.YtnilonnkcbkdmaaGreatDoor
namespace Go.Proofs.YtnilonnkcbkdmaaGreatDoor.Pl
open Go
set_option linter.unusedVariables false
/-! Ranges over functions: code inside a round, calls of yield, the statement itself. -/
section
variable {P:Program} {Q:Exit→Act→World→Prop} {ro:Option Nat} {n:Nat} {ds:List Deferred} {cs:List Code} {l:List (Nat × Value)} {w:World} {x y:Code}
/-! A loop of few rounds, one round after another. -/
/-! A return from inside of loops and blocks. -/
/-! Operations. -/
end
section
variable {P:Program} {L:List Oper} {S:World→Prop} {K:List (Nat × Value)→World→Prop} {Q:Exit→Act→World→Prop} {ro:Option Nat} {n f:Nat} {ds:List Deferred}
end
section
variable {P:Program} {Q:Exit→Act→World→Prop} {n:Nat} {ds:List Deferred} {cs:List Code} {l:List (Nat × Value)} {w:World}
theorem yC {fn:Func} {ds:List Deferred} {l:List (Nat × Value)} {w:World} {t t2:Tmp} {v v2:Value} (hr:fn.results=#[.tmp t,.tmp t2]) (hv:look l t=some v) (hv2:look l t2=some v2):∀ a,Ag n ds a l→(results fn a.tmps).run P w = .ok (.tuple #[v,v2]) w:=fun a ha=>by
 unfold results
 rw [hr]
 have e1:a.tmps.getD t undef=v:=by rw [Array.getD_eq_getD_getElem?,ha.look t v hv];rfl
 have e2:a.tmps.getD t2 undef=v2:=by rw [Array.getD_eq_getD_getElem?,ha.look t2 v2 hv2];rfl
 simp only [List.mapM_toArray,List.mapM_cons,List.mapM_nil,e1,e2]
 rfl
end
end Go.Proofs.YtnilonnkcbkdmaaGreatDoor.Pl
namespace Go.Proofs.YtnilonnkcbkdmaaGreatDoor
open Go.RowKit
set_option linter.unusedVariables false
set_option linter.unusedSimpArgs false
set_option maxHeartbeats 400000
namespace EGE
end EGE
open EGE
theorem kD (w:World) (v:Value) (n:Nat) (h:Un w v n) (hl:Sn n 1000):Calls Tryz.prog 33 #[.bool false,v] w fun e w'=>∃ u,e = .returned u∧Zn w' u (n:Int)∧Ext w w' :=
 adJ w false v (limbs n) h (Nat.le_trans hl (by decide)) n (aG _) (n:Int) (rW n)
section
variable {L:List Oper} {S:World→Prop} {K:List (Nat × Value)→World→Prop} {i m:Nat} {o:Oper} {x y:Operand} {r:List (Bool × Nat × Nat)} {l:List (Nat × Value)} {w:World} {N n0 c0 n c:Nat} {b0 b:Bool} {A0 A:Option Addr}
end
end Go.Proofs.YtnilonnkcbkdmaaGreatDoor
namespace Go.Proofs.YtnilonnkcbkdmaaGreatDoor
open Go.RowKit
set_option linter.unusedVariables false
set_option maxHeartbeats 400000
set_option maxRecDepth 100000 in
theorem aaI (w:World) (v:Value) (z:Int) (h:Zn w v z) (hlz:(limbs z.natAbs).length≤1000000) (y:Int) (hy : -z=y) :
  Calls Tryz.prog 103 #[v] w fun e w'=>∃ u,e = .returned u∧Zn w' u y∧Ext w w':=by
 obtain ⟨b,A,L,c,n,rfl,hu,hL,hz,hb,hza,hzn⟩:=h.open
 have hE0:=((Ext.refl w).alloc (.cells #[.bool b,.slice A L c] 27)).alloc (.cells #[.bool false,.slice none 0 0] 27)
 have hI0:=Ib.new2 w (.cells #[.bool b,.slice A L c] 27) false (.slice none 0 0) 27
 have Dh:=(Ib.new w b (.slice A L c) 27).ext ((Ext.refl _).alloc (.cells #[.bool false,.slice none 0 0] 27))
 have hu0:=hu.below hE0
 have hM:=Lib.hid (fun W h=>adJ W (!b) (.slice A L c) (limbs n) h (by rw [hza] at hlz;omega) n (aG n) y (by rw [apf,← hz];exact hy))
 obtain ⟨p0,p1,p2,p3,p4⟩:=id Dh
 clear hlz hz hb hza hzn hL hy h
 go_enter Tryz.func103,Tryz.ntmps103
 go_wp2_with (go_at_call 33;refine (hM.out _ hu0).mono ?_;rintro e w2 ⟨u,rfl,hz2,hE2⟩;obtain ⟨b2,A2,L2,c2,rfl⟩:=hz2.sh;have hI2:=hI0.ext hE2;obtain ⟨i0,i1,i2,i3,i4⟩:=id hI2)
 (try simp only [Exit.inBlock,Exit.then])
 refine bodyPost_ret (v:=.agg #[.bool b2,.slice A2 L2 c2]) (show (results _ _).run _ _=_ from ?_) rfl ⟨_,rfl,hz2.jS hI2 (dF _ _ _) _ _,(hE0.below hE2).jS (by simp) _ _⟩
 simp only [results]
 go_simp
end Go.Proofs.YtnilonnkcbkdmaaGreatDoor
namespace Go.Proofs.YtnilonnkcbkdmaaGreatDoor
open Go.RowKit
set_option linter.unusedVariables false
set_option maxHeartbeats 400000
theorem aac (n m:Nat):(limbs (n*m)).length≤(limbs n).length+(limbs m).length:=by
 refine iA ?_
 rw [Nat.pow_add]
 exact Nat.mul_lt_mul'' (bO (Nat.le_refl _)) (bO (Nat.le_refl _))
set_option maxRecDepth 100000 in
set_option maxHeartbeats 8000000 in
theorem aaz (w:World) (p:Bool) (A B:Option Addr) (L K c d n m:Nat) (hu:Un w (.slice A L c) n) (hv:Un w (.slice B K d) m) (hl:(limbs n).length≤1000000) (hl2:(limbs m).length≤1000000) (y:Int) (hy:sg p (n+m)=y) :
  Calls Tryz.prog 31 #[.agg #[.bool p,.slice A L c],.agg #[.bool p,.slice B K d]] w fun e w'=>∃ u,e = .returned u∧Zn w' u y∧Ext w w':=by
 have hE0:=((((Ext.refl w).alloc (.cells #[.bool p,.slice A L c] 27)).alloc (.cells #[.bool p,.slice B K d] 27)).alloc (.cells #[.bool false,.slice none 0 0] 27)).drew
 have hI0:=(Ib.aad w (.cells #[.bool p,.slice A L c] 27) (.cells #[.bool p,.slice B K d] 27) false (.slice none 0 0) 27).ext (Ext.refl _).drew
 have Dh:=(Ib.new w p (.slice A L c) 27).ext ((((Ext.refl _).alloc (.cells #[.bool p,.slice B K d] 27)).alloc (.cells #[.bool false,.slice none 0 0] 27)).drew)
 have qj:=(Ib.new2 w (.cells #[.bool p,.slice A L c] 27) p (.slice B K d) 27).ext (((Ext.refl _).alloc (.cells #[.bool false,.slice none 0 0] 27)).drew)
 have hS0:(w.heap.size+1+1<(((w.alloc (.cells #[.bool p,.slice A L c] 27)).alloc (.cells #[.bool p,.slice B K d] 27)).alloc (.cells #[.bool false,.slice none 0 0] 27)).drew.heap.size∧(((w.alloc (.cells #[.bool p,.slice A L c] 27)).alloc (.cells #[.bool p,.slice B K d] 27)).alloc (.cells #[.bool false,.slice none 0 0] 27)).drew.cell? ⟨w.heap.size,0,none⟩=some (.bool p)∧(((w.alloc (.cells #[.bool p,.slice A L c] 27)).alloc (.cells #[.bool p,.slice B K d] 27)).alloc (.cells #[.bool false,.slice none 0 0] 27)).drew.cell? ⟨w.heap.size,1,none⟩=some (.slice A L c)∧(((w.alloc (.cells #[.bool p,.slice A L c] 27)).alloc (.cells #[.bool p,.slice B K d] 27)).alloc (.cells #[.bool false,.slice none 0 0] 27)).drew.cell? ⟨w.heap.size+1,0,none⟩=some (.bool p)∧(((w.alloc (.cells #[.bool p,.slice A L c] 27)).alloc (.cells #[.bool p,.slice B K d] 27)).alloc (.cells #[.bool false,.slice none 0 0] 27)).drew.cell? ⟨w.heap.size+1,1,none⟩=some (.slice B K d))∧Ext w (((w.alloc (.cells #[.bool p,.slice A L c] 27)).alloc (.cells #[.bool p,.slice B K d] 27)).alloc (.cells #[.bool false,.slice none 0 0] 27)).drew:=⟨⟨by simp,Dh.2.1,Dh.2.2.1,qj.2.1,qj.2.2.1⟩,hE0⟩
 have hu0:=hu.below hE0
 have hv0:=hv.below hE0
 have hsl:(limbs (n+m)).length≤1000000000:=by
  have h1:=bO hl
  have h2:=bO hl2
  refine Nat.le_trans (iA (k:=1000000+1) ?_) (by omega)
  obtain ⟨E,hE⟩:∃ E,1000000=E:=⟨_,rfl⟩
  rw [hE] at h1 h2 ⊢
  rw [Nat.pow_succ]
  have:LB^E*2≤LB^E*LB:=Nat.mul_le_mul_left _ (by unfold LB;decide)
  unfold LB at *
  omega
 have hA:=Lib.hid (fun W h g=>wm W (.slice A L c) (.slice B K d) n m h g (by omega) (by omega) _ rfl)
 have hM:=Lib.hid (fun W v (h:Un W v (n+m))=>adJ W p v (limbs (n+m)) h hsl _ (aG _) y hy)
 clear hl hl2 hu hv hy Dh qj hsl
 all_goals (
  go_enter Tryz.func31,Tryz.ntmps31
  go_wp2
  go_region_held3 (fun X=>(w.heap.size+1+1<X.heap.size∧X.cell? ⟨w.heap.size,0,none⟩=some (.bool p)∧X.cell? ⟨w.heap.size,1,none⟩=some (.slice A L c)∧X.cell? ⟨w.heap.size+1,0,none⟩=some (.bool p)∧X.cell? ⟨w.heap.size+1,1,none⟩=some (.slice B K d))∧Ext w X)
   (first
    | assumption
    | exact hS0
    | exact afX (by assumption) (by assumption)
    | exact afY (by assumption))
   (first
    | (go_at_call 30;((with_reducible refine (hA.out _ hu0 hv0).mono ?_);rintro e w2 ⟨u,rfl,hu2,hE2⟩;obtain ⟨A2,c2,rfl,-⟩:=Un.sh hu2))
    | (go_at_call 33;((with_reducible refine (hM.out _ _ hu2).mono ?_);rintro e w3 ⟨u,rfl,hz3,pE⟩;obtain ⟨b3,A3,L3,c3,rfl⟩:=hz3.sh;have Bu:=(hI0.ext hE2).ext pE;obtain ⟨i0,i1,i2,i3,i4⟩:=id Bu)))
  clear Bu hA hM
  go_wp2
  (try simp only [Exit.inBlock,Exit.then])
  refine bodyPost_ret (v:=.agg #[.bool b3,.slice A3 L3 c3]) (show (results _ _).run _ _=_ from ?_) rfl ⟨_,rfl,hz3.jS ((hI0.ext hE2).ext pE) (dF _ _ _) _ _,((hE0.below hE2).below pE).jS (by omega) _ _⟩
  simp only [results]
  go_simp)
set_option maxRecDepth 100000 in
set_option maxHeartbeats 8000000 in
theorem aai (w:World) (p:Bool) (A B:Option Addr) (L K c d n m:Nat) (hu:Un w (.slice A L c) n) (hv:Un w (.slice B K d) m) (hl:(limbs n).length≤1000000) (hl2:(limbs m).length≤1000000) (y:Int) (hy:(if m≤n then sg p (n-m) else sg (!p) (m-n))=y) :
  Calls Tryz.prog 31 #[.agg #[.bool p,.slice A L c],.agg #[.bool (!p),.slice B K d]] w fun e w'=>∃ u,e = .returned u∧Zn w' u y∧Ext w w':=by
 have hE0:=(((Ext.refl w).alloc (.cells #[.bool p,.slice A L c] 27)).alloc (.cells #[.bool (!p),.slice B K d] 27)).alloc (.cells #[.bool false,.slice none 0 0] 27)
 have hI0:=Ib.aad w (.cells #[.bool p,.slice A L c] 27) (.cells #[.bool (!p),.slice B K d] 27) false (.slice none 0 0) 27
 have Dh:=(Ib.new w p (.slice A L c) 27).ext (((Ext.refl _).alloc (.cells #[.bool (!p),.slice B K d] 27)).alloc (.cells #[.bool false,.slice none 0 0] 27))
 have qj:=(Ib.new2 w (.cells #[.bool p,.slice A L c] 27) (!p) (.slice B K d) 27).ext ((Ext.refl _).alloc (.cells #[.bool false,.slice none 0 0] 27))
 have hu0:=hu.below hE0
 have hv0:=hv.below hE0
 obtain ⟨d1,hd1⟩:∃ d,n-m=d:=⟨_,rfl⟩
 obtain ⟨d2,hd2⟩:∃ d,m-n=d:=⟨_,rfl⟩
 have hl3:(limbs d1).length≤1000000000:=by have:=gV (show d1≤n by omega);omega
 have hl4:(limbs d2).length≤1000000000:=by have:=gV (show d2≤m by omega);omega
 rw [hd1,hd2] at hy
 by_cases h0:m≤n
 · rw [if_pos h0] at hy
   have hA:=Lib.hid (fun W h g=>TR W (.slice A L c) (.slice B K d) n m h g (by omega) (by omega) true (decide_eq_true h0) d1 hd1)
   have hM:=Lib.hid (fun W v (h:Un W v d1)=>adJ W p v (limbs d1) h hl3 _ (aG _) y hy)
   clear hl hl2 hu hv hy hl3 hl4 hd1 hd2 h0
   cases p
   all_goals (
    go_enter Tryz.func31,Tryz.ntmps31
    go_wp2_with (first
     | (go_at_call 38;refine (hA.out _ hu0 hv0).mono ?_;rintro e w2 ⟨u,rfl,hu2,hE2⟩;obtain ⟨A2,c2,rfl,-⟩:=Un.sh hu2;obtain ⟨p0,p1,p2,p3,p4⟩:=Dh.ext hE2;obtain ⟨q0,q1,q2,q3,q4⟩:=qj.ext hE2)
     | (go_at_call 33;refine (hM.out _ _ hu2).mono ?_;rintro e w3 ⟨u,rfl,hz3,pE⟩;obtain ⟨b3,A3,L3,c3,rfl⟩:=hz3.sh;have Bu:=(hI0.ext hE2).ext pE;obtain ⟨i0,i1,i2,i3,i4⟩:=id Bu))
    (try simp only [Exit.inBlock,Exit.then])
    refine bodyPost_ret (v:=.agg #[.bool b3,.slice A3 L3 c3]) (show (results _ _).run _ _=_ from ?_) rfl ⟨_,rfl,hz3.jS ((hI0.ext hE2).ext pE) (dF _ _ _) _ _,((hE0.below hE2).below pE).jS (by omega) _ _⟩
    simp only [results]
    go_simp)
 · rw [if_neg h0] at hy
   have hA:=Lib.hid (fun W h g=>TR W (.slice A L c) (.slice B K d) n m h g (by omega) (by omega) false (decide_eq_false h0) d1 hd1)
   have hA2:=Lib.hid (fun W h g=>TR W (.slice B K d) (.slice A L c) m n h g (by omega) (by omega) _ rfl d2 hd2)
   have hM:=Lib.hid (fun W v (h:Un W v d2)=>adJ W (!p) v (limbs d2) h hl4 _ (aG _) y hy)
   clear hl hl2 hu hv hy hl3 hl4 hd1 hd2 h0
   cases p
   all_goals (
    go_enter Tryz.func31,Tryz.ntmps31
    go_upto_region 6 with (go_at_call 38;refine (hA.out _ hu0 hv0).mono ?_;rintro e w2 ⟨u,rfl,hu2,hE2⟩;obtain ⟨A2,c2,rfl,-⟩:=Un.sh hu2;obtain ⟨p0,p1,p2,p3,p4⟩:=Dh.ext hE2;obtain ⟨q0,q1,q2,q3,q4⟩:=qj.ext hE2)
    go_wp2_with (first
     | (go_at_call 38;refine (hA2.out _ (Un.below hv0 hE2) (Un.below hu0 hE2)).mono ?_;rintro e w4 ⟨u,rfl,hu4,wZ⟩;obtain ⟨A4,c4,rfl,-⟩:=Un.sh hu4;obtain ⟨p0,p1,p2,p3,p4⟩:=(Dh.ext hE2).ext wZ;obtain ⟨q0,q1,q2,q3,q4⟩:=(qj.ext hE2).ext wZ)
     | (go_at_call 33;refine (hM.out _ _ hu4).mono ?_;rintro e w3 ⟨u,rfl,hz3,pE⟩;obtain ⟨b3,A3,L3,c3,rfl⟩:=hz3.sh;have Bu:=((hI0.ext hE2).ext wZ).ext pE;obtain ⟨i0,i1,i2,i3,i4⟩:=id Bu))
    (try simp only [Exit.inBlock,Exit.then])
    refine bodyPost_ret (v:=.agg #[.bool b3,.slice A3 L3 c3]) (show (results _ _).run _ _=_ from ?_) rfl ⟨_,rfl,hz3.jS (((hI0.ext hE2).ext wZ).ext pE) (dF _ _ _) _ _,(((hE0.below hE2).below wZ).below pE).jS (by omega) _ _⟩
    simp only [results]
    go_simp)
theorem Qc (w:World) (va vb:Value) (a b:Int) (ha:Zn w va a) (hb:Zn w vb b) (hl:(limbs a.natAbs).length≤1000000) (hl2:(limbs b.natAbs).length≤1000000) (y:Int) (hy:a+b=y) :
  Calls Tryz.prog 31 #[va,vb] w fun e w'=>∃ u,e = .returned u∧Zn w' u y∧Ext w w':=by
 obtain ⟨p,A,L,c,n,rfl,hu,hL,hz,-,hza,hzn⟩:=ha.open
 obtain ⟨q,B,K,d,m,rfl,hv,hK,hz2,-,xA,Fz⟩:=hb.open
 rw [hza] at hl
 rw [xA] at hl2
 rw [hz,hz2] at hy
 by_cases h:q=p
 · subst h
   exact aaz w q A B L K c d n m hu hv hl hl2 y ((EQ _ _ _).trans hy)
 · obtain rfl:q = !p:=by cases p<;>cases q<;>first | rfl | exact absurd rfl h
   exact aai w p A B L K c d n m hu hv hl hl2 y ((CV _ _ _).trans hy)
set_option maxRecDepth 100000 in
set_option maxHeartbeats 8000000 in
theorem aev (w:World) (va vb:Value) (a b:Int) (ha:Zn w va a) (hb:Zn w vb b) (hl:(limbs a.natAbs).length≤1000000) (hl2:(limbs b.natAbs).length≤1000000) (y:Int) (hy:a-b=y) :
  Calls Tryz.prog 78 #[va,vb] w fun e w'=>∃ u,e = .returned u∧Zn w' u y∧Ext w w':=by
 have hN:=Lib.hid (fun W h=>aaI W vb b h hl2 (-b) rfl)
 have hA:=Lib.hid (fun W u h (g:Zn W u (-b))=>Qc W va u a (-b) h g hl (by rw [Int.natAbs_neg];exact hl2) y (by rw [← Int.sub_eq_add_neg];exact hy))
 have ha':=ha
 have hb':=hb
 obtain ⟨p,A,L,c,n,rfl,hu,hL,hz,-,hza,hzn⟩:=ha.open
 obtain ⟨q,B,K,d,m,rfl,hv,hK,hz2,-,xA,Fz⟩:=hb.open
 have hE0:=((((Ext.refl w).alloc (.cells #[.bool p,.slice A L c] 27)).alloc (.cells #[.bool q,.slice B K d] 27)).alloc (.cells #[.bool false,.slice none 0 0] 27)).drew
 have hI0:=(Ib.aad w (.cells #[.bool p,.slice A L c] 27) (.cells #[.bool q,.slice B K d] 27) false (.slice none 0 0) 27).ext (Ext.refl _).drew
 have Dh:=(Ib.new w p (.slice A L c) 27).ext ((((Ext.refl _).alloc (.cells #[.bool q,.slice B K d] 27)).alloc (.cells #[.bool false,.slice none 0 0] 27)).drew)
 have qj:=(Ib.new2 w (.cells #[.bool p,.slice A L c] 27) q (.slice B K d) 27).ext (((Ext.refl _).alloc (.cells #[.bool false,.slice none 0 0] 27)).drew)
 have hS0:(w.heap.size+1+1<(((w.alloc (.cells #[.bool p,.slice A L c] 27)).alloc (.cells #[.bool q,.slice B K d] 27)).alloc (.cells #[.bool false,.slice none 0 0] 27)).drew.heap.size∧(((w.alloc (.cells #[.bool p,.slice A L c] 27)).alloc (.cells #[.bool q,.slice B K d] 27)).alloc (.cells #[.bool false,.slice none 0 0] 27)).drew.cell? ⟨w.heap.size,0,none⟩=some (.bool p)∧(((w.alloc (.cells #[.bool p,.slice A L c] 27)).alloc (.cells #[.bool q,.slice B K d] 27)).alloc (.cells #[.bool false,.slice none 0 0] 27)).drew.cell? ⟨w.heap.size,1,none⟩=some (.slice A L c)∧(((w.alloc (.cells #[.bool p,.slice A L c] 27)).alloc (.cells #[.bool q,.slice B K d] 27)).alloc (.cells #[.bool false,.slice none 0 0] 27)).drew.cell? ⟨w.heap.size+1,0,none⟩=some (.bool q)∧(((w.alloc (.cells #[.bool p,.slice A L c] 27)).alloc (.cells #[.bool q,.slice B K d] 27)).alloc (.cells #[.bool false,.slice none 0 0] 27)).drew.cell? ⟨w.heap.size+1,1,none⟩=some (.slice B K d))∧Ext w (((w.alloc (.cells #[.bool p,.slice A L c] 27)).alloc (.cells #[.bool q,.slice B K d] 27)).alloc (.cells #[.bool false,.slice none 0 0] 27)).drew:=⟨⟨by simp,Dh.2.1,Dh.2.2.1,qj.2.1,qj.2.2.1⟩,hE0⟩
 have ha0:=ha'.below hE0
 have hb0:=hb'.below hE0
 clear hl hl2 hza hzn xA Fz hz hz2 hL hK ha hb hy Dh qj ha' hb'
 go_enter Tryz.func78,Tryz.ntmps78
 go_wp2
 go_region_held3 (fun X=>(w.heap.size+1+1<X.heap.size∧X.cell? ⟨w.heap.size,0,none⟩=some (.bool p)∧X.cell? ⟨w.heap.size,1,none⟩=some (.slice A L c)∧X.cell? ⟨w.heap.size+1,0,none⟩=some (.bool q)∧X.cell? ⟨w.heap.size+1,1,none⟩=some (.slice B K d))∧Ext w X)
  (first
   | exact hS0
   | exact afX (by assumption) (by assumption)
   | exact afY (by assumption))
  (first
   | (go_at_call 103;((with_reducible refine (hN.out _ hb0).mono ?_);rintro e w2 ⟨u,rfl,hz2,hE2⟩;obtain ⟨b2,A2,L2,c2,rfl⟩:=hz2.sh))
   | (go_at_call 31;((with_reducible refine (hA.out _ _ (ha0.below hE2) hz2).mono ?_);rintro e w3 ⟨u,rfl,hz3,pE⟩;obtain ⟨b3,A3,L3,c3,rfl⟩:=hz3.sh;have Bu:=(hI0.ext hE2).ext pE;obtain ⟨i0,i1,i2,i3,i4⟩:=id Bu)))
 clear hN hA
 clear Bu
 go_wp2
 (try simp only [Exit.inBlock,Exit.then])
 refine bodyPost_ret (v:=.agg #[.bool b3,.slice A3 L3 c3]) (show (results _ _).run _ _=_ from ?_) rfl ⟨_,rfl,hz3.jS ((hI0.ext hE2).ext pE) (dF _ _ _) _ _,((hE0.below hE2).below pE).jS (by omega) _ _⟩
 simp only [results]
 go_simp
set_option maxRecDepth 100000 in
set_option maxHeartbeats 8000000 in
theorem yx (w:World) (va vb:Value) (a b:Int) (ha:Zn w va a) (hb:Zn w vb b) (hl:(limbs a.natAbs).length≤398) (hl2:(limbs b.natAbs).length≤398) (y:Int) (hy:a*b=y) :
  Calls Tryz.prog 32 #[va,vb] w fun e w'=>∃ u,e = .returned u∧Zn w' u y∧Ext w w':=by
 obtain ⟨p,A,L,c,n,rfl,hu,hL,hz,-,hza,hzn⟩:=ha.open
 obtain ⟨q,B,K,d,m,rfl,hv,hK,hz2,-,xA,Fz⟩:=hb.open
 rw [hza] at hl
 rw [xA] at hl2
 obtain ⟨k,hk⟩:∃ k,n*m=k:=⟨_,rfl⟩
 have hM:=Lib.hid (fun W h g=>kP W (.slice A L c) (.slice B K d) n m k h g hl hl2 hk)
 have hkl:(limbs k).length≤1000000000:=by
  have:=aac n m
  rw [hk] at this
  omega
 have hMk:=Lib.hid (fun W v (h:Un W v k)=>adJ W (!(p==q)) v (limbs k) h hkl k (aG _) y (by rw [← hk,apg,← hz,← hz2];exact hy))
 have hE0:=((((Ext.refl w).alloc (.cells #[.bool p,.slice A L c] 27)).alloc (.cells #[.bool q,.slice B K d] 27)).alloc (.cells #[.bool false,.slice none 0 0] 27)).drew
 have hI0:=(Ib.aad w (.cells #[.bool p,.slice A L c] 27) (.cells #[.bool q,.slice B K d] 27) false (.slice none 0 0) 27).ext (Ext.refl _).drew
 have Dh:=(Ib.new w p (.slice A L c) 27).ext ((((Ext.refl _).alloc (.cells #[.bool q,.slice B K d] 27)).alloc (.cells #[.bool false,.slice none 0 0] 27)).drew)
 have qj:=(Ib.new2 w (.cells #[.bool p,.slice A L c] 27) q (.slice B K d) 27).ext (((Ext.refl _).alloc (.cells #[.bool false,.slice none 0 0] 27)).drew)
 have hu0:=hu.below hE0
 have hv0:=hv.below hE0
 obtain ⟨p0,p1,p2,p3,p4⟩:=id Dh
 obtain ⟨q0,q1,q2,q3,q4⟩:=id qj
 clear hl hl2 hza hzn xA Fz hz hz2 hL hK ha hb hy hk
 go_enter Tryz.func32,Tryz.ntmps32
 have hS0:(w.heap.size+1+1<(((w.alloc (.cells #[.bool p,.slice A L c] 27)).alloc (.cells #[.bool q,.slice B K d] 27)).alloc (.cells #[.bool false,.slice none 0 0] 27)).drew.heap.size∧(((w.alloc (.cells #[.bool p,.slice A L c] 27)).alloc (.cells #[.bool q,.slice B K d] 27)).alloc (.cells #[.bool false,.slice none 0 0] 27)).drew.cell? ⟨w.heap.size,0,none⟩=some (.bool p)∧(((w.alloc (.cells #[.bool p,.slice A L c] 27)).alloc (.cells #[.bool q,.slice B K d] 27)).alloc (.cells #[.bool false,.slice none 0 0] 27)).drew.cell? ⟨w.heap.size,1,none⟩=some (.slice A L c)∧(((w.alloc (.cells #[.bool p,.slice A L c] 27)).alloc (.cells #[.bool q,.slice B K d] 27)).alloc (.cells #[.bool false,.slice none 0 0] 27)).drew.cell? ⟨w.heap.size+1,0,none⟩=some (.bool q)∧(((w.alloc (.cells #[.bool p,.slice A L c] 27)).alloc (.cells #[.bool q,.slice B K d] 27)).alloc (.cells #[.bool false,.slice none 0 0] 27)).drew.cell? ⟨w.heap.size+1,1,none⟩=some (.slice B K d))∧Ext w (((w.alloc (.cells #[.bool p,.slice A L c] 27)).alloc (.cells #[.bool q,.slice B K d] 27)).alloc (.cells #[.bool false,.slice none 0 0] 27)).drew:=⟨⟨by simp,p1,p2,q1,q2⟩,hE0⟩
 clear p0 p1 p2 p3 p4 q0 q1 q2 q3 q4
 go_wp2
 go_region_held3 (fun X=>(w.heap.size+1+1<X.heap.size∧X.cell? ⟨w.heap.size,0,none⟩=some (.bool p)∧X.cell? ⟨w.heap.size,1,none⟩=some (.slice A L c)∧X.cell? ⟨w.heap.size+1,0,none⟩=some (.bool q)∧X.cell? ⟨w.heap.size+1,1,none⟩=some (.slice B K d))∧Ext w X)
  (first
   | exact hS0
   | exact afX (by assumption) (by assumption)
   | exact afY (by assumption))
  (first
   | (go_at_call 28;((with_reducible refine (hM.out _ hu0 hv0).mono ?_);rintro e w2 ⟨u,rfl,hu2,hE2⟩;obtain ⟨A2,c2,rfl,hc2⟩:=Un.sh hu2))
   | (go_at_call 33;((with_reducible refine (hMk.out _ _ hu2).mono ?_);rintro e w3 ⟨u,rfl,hz3,pE⟩;obtain ⟨b3,A3,L3,c3,rfl⟩:=hz3.sh;have Bu:=(hI0.ext hE2).ext pE;obtain ⟨i0,i1,i2,i3,i4⟩:=id Bu)))
 clear Bu hM hMk
 go_wp2
 (try simp only [Exit.inBlock,Exit.then])
 refine bodyPost_ret (v:=.agg #[.bool b3,.slice A3 L3 c3]) (show (results _ _).run _ _=_ from ?_) rfl ⟨_,rfl,hz3.jS ((hI0.ext hE2).ext pE) (dF _ _ _) _ _,((hE0.below hE2).below pE).jS (by omega) _ _⟩
 simp only [results]
 go_simp
end Go.Proofs.YtnilonnkcbkdmaaGreatDoor
namespace Go.Proofs.YtnilonnkcbkdmaaGreatDoor
open Go.RowKit
set_option linter.unusedVariables false
set_option linter.unusedSimpArgs false
set_option maxHeartbeats 400000
theorem oZ (N o:Nat) (X:World):(Instr.fieldAt 63 (.pointer (some ⟨N,o,none⟩)) 0).run Tryz.prog X = .ok (.pointer (some ⟨N,o,none⟩)) X:=by go_simp
theorem wu (N:Nat) (X:World):(Instr.fieldAt 63 (.pointer (some ⟨N,0,none⟩)) 1).run Tryz.prog X = .ok (.pointer (some ⟨N,1,none⟩)) X:=by go_simp
theorem ww (N:Nat) (X:World):(Instr.fieldAt 63 (.pointer (some ⟨N,0,none⟩)) 2).run Tryz.prog X = .ok (.pointer (some ⟨N,3,none⟩)) X:=by go_simp
theorem I8 (N n c j:Nat) (z:Int) (hz:z=(j:Int)) (h:j<n) (X:World):(Instr.indexAt 59 (.slice (some ⟨N,0,none⟩) n c) (.int .i64 z)).run Tryz.prog X = .ok (.pointer (some ⟨N,j*5,none⟩)) X:=by
 subst hz
 have h1:(j:Int)<(n:Int):=by omega
 have h0:(0:Int)≤(j:Int):=by omega
 have e:(⟨N,0,none⟩:Addr).add (j*5)=⟨N,j*5,none⟩:=by rw [Addr.add_mid,Nat.zero_add]
 go_simp
set_option maxRecDepth 100000 in
theorem Gr.wy {ok:Value→Prop} {w:World} {base n g cap o:Nat} {c part d:List Value} (h:Pl.Gr ok w base 63 5 (.slice (some ⟨g,0,none⟩) n cap) n (c++(part++d))) (ho:o=c.length) (hl:part.length=5) :
  (Instr.loadAt 63 (.pointer (some ⟨g,o,none⟩))).run Tryz.prog w = .ok (.agg part.toArray) w:=by
 subst ho
 obtain ⟨cur,hgg,_,hp⟩:=Gr.cells h
 refine run_loadAt_mid w g c.length 63 part _ ?_ rfl rfl (by rw [hl];kernel_rfl)
 have:=World.rangeAt_of_block hgg c.length part.length
 have e:(cur.extract c.length (c.length+part.length)).toList=part:=by
  rw [Array.toList_extract,List.extract_eq_take_drop,Nat.add_sub_cancel_left];exact hp
 rwa [e] at this
theorem Gr.Qy {ok:Value→Prop} {w:World} {base n g cap o k q:Nat} {A:Option Addr} {c r d:List Value} (h:Pl.Gr ok w base 63 5 (.slice (some ⟨g,0,none⟩) n cap) n (c++((.slice A k q::r)++d))) (ho:o=c.length) :
  (Instr.loadAt 22 (.pointer (some ⟨g,o,none⟩))).run Tryz.prog w = .ok (.slice A k q) w:=by
 subst ho
 obtain ⟨cur,hgg,_,hp⟩:=Gr.cells h
 have hc:w.cell? ⟨g,c.length,none⟩=some (.slice A k q):=by
  have e2:cur.toList[c.length]?=some (.slice A k q):=by
   have h3:(cur.toList.drop c.length)[0]?=some (.slice A k q):=by
    have h4:((cur.toList.drop c.length).take (Value.slice A k q::r).length)[0]?=some (.slice A k q):=by rw [hp];rfl
    rw [List.getElem?_take] at h4
    simpa using h4
   rwa [List.getElem?_drop,Nat.add_zero] at h3
  unfold World.cell?
  rw [hgg]
  simpa using e2
 clear h hgg hp
 go_simp
def RI (w:World) (base:Nat) (lv qv:Value) (P Q:Nat) (uP vP uQ vQ:Int) (done:List Nat):Prop:=∃ c RP RQ xs,c.length=done.length*5∧Pl.Gr dQ w base 63 5 lv (done.length+2) (c++(RP++RQ))∧Rw w RP P uP vP∧Rw w RQ Q uQ vQ ∧
 Pl.Gr dQ w base 22 1 qv done.length xs∧Qs w xs done
section
variable {L:List Oper} {S:World→Prop} {K:List (Nat × Value)→World→Prop} {i m d:Nat} {o:Oper} {x y:Operand} {r:List (Bool × Nat × Nat)} {l:List (Nat × Value)} {w:World}
theorem pg {A:Option Addr} {k:Bool} {n c:Nat} (hS:S w) (ho:Pl.nth L i=some o) (hop:o.op = .call { callee:=.builtin .len,args:=#[x],argTypes:=#[59] }) (hd:o.dst=some d) (hg:Pl.gd L l o.guard=some true) (hx:Pl.ig l x=some (.slice A n c))
  (h:Pl.gY Tryz.prog L S K r ((d,.int .i64 (n:Int))::l) w):Pl.gY Tryz.prog L S K ((k,i,m)::r) l w :=
 Pl.dV hS ho hd hg (fun ρ hρ X _=>by
  obtain ⟨d',op',t',ps',axm,gu'⟩:=o
  cases hop
  have e:=hρ.ig hx
  simp [go_sem,e]) h
theorem NG {a0 a1 a2 a3 a4 b0 b1 b2 b3 b4:Value} (ho:Pl.nth L i=some o) (hp:o.op = .buildSlice 59 2 #[(0,x),(1,y)]) (hd:o.dst=some d) (hg:Pl.gd L l o.guard=some true) (hx:Pl.ig l x=some (.agg #[a0,a1,a2,a3,a4])) (hy:Pl.ig l y=some (.agg #[b0,b1,b2,b3,b4])) (hS:∀ Y,Ext w Y→S Y)
  (h:Ext w (w.alloc (.cells ([a0,a1,a2,a3,a4,b0,b1,b2,b3,b4]:List Value).toArray 63))→Pl.gY Tryz.prog L S K r ((d,.slice (some ⟨w.heap.size,0,none⟩) 2 2)::l) (w.alloc (.cells ([a0,a1,a2,a3,a4,b0,b1,b2,b3,b4]:List Value).toArray 63))):Pl.gY Tryz.prog L S K ((false,i,m)::r) l w:=by
 have e1:=(Ext.refl w).alloc (.cells ([a0,a1,a2,a3,a4,b0,b1,b2,b3,b4]:List Value).toArray 63)
 refine Pl.kU (w':=w.alloc (.cells ([a0,a1,a2,a3,a4,b0,b1,b2,b3,b4]:List Value).toArray 63)) (v:=.slice (some ⟨w.heap.size,0,none⟩) 2 2) ho hd hg (fun ρ hρ=>?_) (hS _ e1) (h e1)
 unfold execOp;rw [hp]
 refine Pl.jy _ ?_
 have e:=hρ.ig hx
 have e2:=hρ.ig hy
 simp only [List.map_toArray,List.map_cons,List.map_nil]
 go_simp
theorem NH {a0 a1 a2 a3 a4:Value} (ho:Pl.nth L i=some o) (hp:o.op = .buildSlice 59 1 #[(0,x)]) (hd:o.dst=some d) (hg:Pl.gd L l o.guard=some true) (hx:Pl.ig l x=some (.agg #[a0,a1,a2,a3,a4])) (hS:∀ Y,Ext w Y→S Y)
  (h:∀ M w',Ext w w'→Cb w' M 63 [a0,a1,a2,a3,a4]→Pl.gY Tryz.prog L S K r ((d,.slice (some ⟨M,0,none⟩) 1 1)::l) w'):Pl.gY Tryz.prog L S K ((false,i,m)::r) l w:=by
 have e1:=(Ext.refl w).alloc (.cells #[a0,a1,a2,a3,a4] 63)
 refine Pl.kU (w':=w.alloc (.cells #[a0,a1,a2,a3,a4] 63)) (v:=.slice (some ⟨w.heap.size,0,none⟩) 1 1) ho hd hg (fun ρ hρ=>?_) (hS _ e1) (h _ _ e1 (Cb.new w _ _))
 unfold execOp;rw [hp]
 refine Pl.jy _ ?_
 have e:=hρ.ig hx
 simp only [List.map_toArray,List.map_cons,List.map_nil]
 go_simp
theorem NI (ho:Pl.nth L i=some o) (hp:o.op = .buildSlice 30 0 #[]) (hd:o.dst=some d) (hg:Pl.gd L l o.guard=some true) (hS:∀ Y,Ext w Y→S Y)
  (h:Ext w (w.alloc (.cells ([]:List Value).toArray 22))→Pl.gY Tryz.prog L S K r ((d,.slice (some ⟨w.heap.size,0,none⟩) 0 0)::l) (w.alloc (.cells ([]:List Value).toArray 22))):Pl.gY Tryz.prog L S K ((false,i,m)::r) l w:=by
 have e1:=(Ext.refl w).alloc (.cells ([]:List Value).toArray 22)
 refine Pl.kU (w':=w.alloc (.cells ([]:List Value).toArray 22)) (v:=.slice (some ⟨w.heap.size,0,none⟩) 0 0) ho hd hg (fun ρ hρ=>?_) (hS _ e1) (h e1)
 unfold execOp;rw [hp]
 refine Pl.jy _ ?_
 simp only [List.map_toArray,List.map_cons,List.map_nil]
 go_simp
end
set_option maxRecDepth 100000 in
set_option maxHeartbeats 4000000 in
theorem uk (w:World) (va vb:Value) (a b:Nat) (ha:Un w va a) (hb:Un w vb b) (hla:Sn a 90) (hlb:Sn b 90) :
  Calls Tryz.prog 47 #[va,vb] w fun e w'=>∃ lv qv done P uP vP uQ vQ,e = .returned (.tuple #[lv,qv])∧RI w' w.heap.size lv qv P 0 uP vP uQ vQ done∧done=quo a b∧P=Nat.gcd a b∧uP=(cf (quo a b) 1 0).1∧vP=(cf (quo a b) 0 1).1∧Ext w w':=by
 obtain ⟨A0,c0,rfl,-⟩:=Un.sh ha
 obtain ⟨A1,c1,rfl,-⟩:=Un.sh hb
 refine Pl.aV (n:=81) (vs:=[.slice A0 (limbs a).length c0,.slice A1 (limbs b).length c1]) Tryz.func47 rfl (by kernel_rfl) (by simp) ?_
 repeat refine Pl.az ?_
 refine Pl.ay (by kernel_rfl) ?_
 refine Pl.aj trivial rfl rfl rfl rfl rfl ?_
 refine Pl.aj trivial rfl rfl rfl rfl rfl ?_
 refine Pl.ak ?_
 repeat refine Pl.az ?_
 refine Pl.ay (by kernel_rfl) ?_
 refine Pl.ah trivial rfl rfl rfl rfl rfl ?_
 refine Pl.aA rfl rfl rfl rfl rfl (fun u X=>Pl.enters Tryz.func40 (by kernel_rfl) rfl u X) ?_
 refine Calls.mono (Im _ 1 (by decide) (by decide)) ?_
 rintro e w1 ⟨v1,rfl,hz1,hB1⟩
 obtain ⟨p1,B1,l1,d1,rfl⟩:=Zn.sh hz1
 refine ⟨_,rfl,trivial,?_⟩
 refine Pl.aA rfl rfl rfl rfl rfl (fun u X=>Pl.enters Tryz.func40 (by kernel_rfl) rfl u X) ?_
 refine Calls.mono (Im _ 0 (by decide) (by decide)) ?_
 rintro e w2 ⟨v2,rfl,hz2,hB2⟩
 obtain ⟨p2,B2,l2,d2,rfl⟩:=Zn.sh hz2
 refine ⟨_,rfl,trivial,?_⟩
 refine Pl.dV (v:=.agg #[.slice A0 (limbs a).length c0,.bool p1,.slice B1 l1 d1,.bool p2,.slice B2 l2 d2]) trivial rfl rfl rfl (fun ρ hρ X _=>by have e1:=hρ.tmp 14 _ rfl;have e2:=hρ.tmp 15 _ rfl;have e3:=hρ.tmp 16 _ rfl;simp [go_sem,e1,e2,e3]) ?_
 refine Pl.ah trivial rfl rfl rfl rfl rfl ?_
 refine Pl.aA rfl rfl rfl rfl rfl (fun u X=>Pl.enters Tryz.func40 (by kernel_rfl) rfl u X) ?_
 refine Calls.mono (Im _ 0 (by decide) (by decide)) ?_
 rintro e w3 ⟨v3,rfl,hz3,hB3⟩
 obtain ⟨p3,B3,l3,d3,rfl⟩:=Zn.sh hz3
 refine ⟨_,rfl,trivial,?_⟩
 refine Pl.aA rfl rfl rfl rfl rfl (fun u X=>Pl.enters Tryz.func40 (by kernel_rfl) rfl u X) ?_
 refine Calls.mono (Im _ 1 (by decide) (by decide)) ?_
 rintro e w4 ⟨v4,rfl,hz4,hB4⟩
 obtain ⟨p4,B4,l4,d4,rfl⟩:=Zn.sh hz4
 refine ⟨_,rfl,trivial,?_⟩
 refine Pl.dV (v:=.agg #[.slice A1 (limbs b).length c1,.bool p3,.slice B3 l3 d3,.bool p4,.slice B4 l4 d4]) trivial rfl rfl rfl (fun ρ hρ X _=>by have e1:=hρ.tmp 18 _ rfl;have e2:=hρ.tmp 19 _ rfl;have e3:=hρ.tmp 20 _ rfl;simp [go_sem,e1,e2,e3]) ?_
 have wZ:=hB1.below (hB2.below (hB3.below hB4))
 have ku:Rw w4 [.slice A0 (limbs a).length c0,.bool p1,.slice B1 l1 d1,.bool p2,.slice B2 l2 d2] a 1 0:=⟨_,_,_,_,_,_,_,_,_,_,rfl,Un.below ha wZ,Zn.below hz1 (hB2.below (hB3.below hB4)),Zn.below hz2 (hB3.below hB4)⟩
 have hR2:Rw w4 [.slice A1 (limbs b).length c1,.bool p3,.slice B3 l3 d3,.bool p4,.slice B4 l4 d4] b 0 1:=⟨_,_,_,_,_,_,_,_,_,_,rfl,Un.below hb wZ,Zn.below hz3 hB4,hz4⟩
 have hG:=Pl.Gr.made (ok:=dQ) w4 w.heap.size 63 5 2 [.slice A0 (limbs a).length c0,.bool p1,.slice B1 l1 d1,.bool p2,.slice B2 l2 d2,.slice A1 (limbs b).length c1,.bool p3,.slice B3 l3 d3,.bool p4,.slice B4 l4 d4] wZ.size rfl (by decide) (iC (sG _ _ _) (aF (aF (iC (sG _ _ _) (aF (aF aN))))))
 refine NG rfl rfl rfl rfl rfl rfl (fun _ _=>trivial) fun bH=>?_
 generalize hg5:w4.heap.size=g5 at hG ⊢
 generalize w4.alloc (.cells ([.slice A0 (limbs a).length c0,.bool p1,.slice B1 l1 d1,.bool p2,.slice B2 l2 d2,.slice A1 (limbs b).length c1,.bool p3,.slice B3 l3 d3,.bool p4,.slice B4 l4 d4]:List Value).toArray 63)=w5 at *
 have zS:=wZ.below bH
 have hGq:=Pl.Gr.made (ok:=dQ) w5 w.heap.size 22 1 0 [] zS.size rfl (by decide) (by simp)
 refine NI rfl rfl rfl rfl (fun _ _=>trivial) fun aZ=>?_
 generalize hg6:w5.heap.size=g6 at hGq ⊢
 generalize w5.alloc (.cells ([]:List Value).toArray 22)=w6 at *
 refine Pl.aj trivial rfl rfl rfl rfl rfl ?_
 refine Pl.aj trivial rfl rfl rfl rfl rfl ?_
 refine Pl.ak ?_
 have AL:=zS.below aZ
 repeat refine Pl.az ?_
 refine Pl.kS [(6,.slice (some ⟨g5,0,none⟩) 2 2),(7,.slice (some ⟨g6,0,none⟩) 0 0)] (Pl.aa rfl (Pl.aa rfl Pl.aK)) ?_
 repeat refine Pl.az ?_
 refine Pl.cK ?_
 repeat refine Pl.az ?_
 refine Pl.mU (fun k l' w'=>∃ P uP vP uQ vQ done lv qv,RM a b P k uP vP uQ vQ done∧RI w' w.heap.size lv qv P k uP vP uQ vQ done∧Ext w w'∧l'=[(6,lv),(7,qv)]) b ⟨a,1,0,0,1,[],_,_,RM.start hla hlb,⟨[],_,_,[],rfl,Gr.ext hG aZ,ku.kp (Kp.ext (bH.below aZ)),hR2.kp (Kp.ext (bH.below aZ)),hGq,trivial⟩,AL,rfl⟩ ?_
 rintro Q _ w1 ⟨P,uP,vP,uQ,vQ,done,lv,qv,hM,hI,hE,rfl⟩
 have hsh:=hM.short hlb
 obtain ⟨c,RP,RQ,xs,hcl,hG,⟨AP,cP,ni,nk,nA,nC,nD,nE,nG,nH,rfl,hP,Qz,QA⟩,⟨AQ,cQ,zD,zF,zG,zH,zI,zJ,zK,zL,rfl,hQ,huQ,hvQ⟩,hGq,hQs⟩:=hI
 obtain ⟨g,cap,rfl,hgw⟩:=Gr.shape hG (by omega)
 have hGP:=hG
 have hGQ:Pl.Gr dQ w1 w.heap.size 63 5 (.slice (some ⟨g,0,none⟩) (done.length+2) cap) (done.length+2) ((c++[.slice AP (limbs P).length cP,.bool ni,.slice nk nA nC,.bool nD,.slice nE nG nH])++([.slice AQ (limbs Q).length cQ,.bool zD,.slice zF zG zH,.bool zI,.slice zJ zK zL]++[])):=by rw [List.append_nil,List.append_assoc];exact hG
 rcases Nat.eq_zero_or_pos Q with qj | qj
 · skip
   repeat refine Pl.az ?_
   refine Pl.ay (by kernel_rfl) ?_
   refine Pl.ah trivial rfl rfl rfl rfl rfl ?_
   refine Pl.ah trivial rfl rfl rfl rfl rfl ?_
   refine pg trivial rfl rfl rfl rfl rfl ?_
   refine Pl.aI (v:=.int .i64 ((done.length+1:Nat):Int)) trivial rfl rfl rfl rfl rfl rfl (fun X=>j6 (by omega) (by omega) (by omega) X) ?_
   refine aP trivial rfl rfl rfl rfl rfl rfl (I8 _ _ _ (done.length+1) _ rfl (by omega)) ?_
   refine bg trivial rfl rfl rfl rfl rfl (oZ _ _) ?_
   refine Pl.aH trivial rfl rfl rfl rfl rfl (Gr.Qy hGQ (by simp [hcl];omega)) ?_
   refine bG trivial rfl rfl rfl rfl rfl ?_
   refine Pl.aI (v:=.bool false) trivial rfl rfl rfl rfl rfl rfl (fun X=>kY (decide_eq_false (pQ qj)) X) ?_
   refine Pl.ak ?_
   repeat refine Pl.az ?_
   refine Pl.bD rfl ?_
   repeat refine Pl.az ?_
   refine Pl.jE ?_
   repeat refine Pl.az ?_
   refine Pl.ay (by kernel_rfl) ?_
   refine Pl.ah trivial rfl rfl rfl rfl rfl ?_
   refine Pl.ah trivial rfl rfl rfl rfl rfl ?_
   refine Pl.aj trivial rfl rfl rfl rfl rfl ?_
   refine Pl.aj trivial rfl rfl rfl rfl rfl ?_
   refine Pl.ak ?_
   repeat refine Pl.az ?_
   refine Pl.BS fun av hav=>⟨hav.defers,_,Pl.yC rfl rfl rfl av hav,?_⟩
   subst qj
   obtain ⟨m1,m2,m3,m4,-⟩:=hM
   rw [eY] at m1 m2 m3
   rw [List.append_nil] at m1
   rw [Nat.gcd_zero_right] at m4
   exact ⟨_,_,done,P,uP,vP,uQ,vQ,rfl,⟨c,_,_,xs,hcl,hG,⟨_,_,_,_,_,_,_,_,_,_,rfl,hP,Qz,QA⟩,⟨_,_,_,_,_,_,_,_,_,_,rfl,hQ,huQ,hvQ⟩,hGq,hQs⟩,m1.symm,m4,congrArg Prod.fst m2,congrArg Prod.fst m3,hE⟩
 · skip
   repeat refine Pl.az ?_
   refine Pl.ay (by kernel_rfl) ?_
   refine Pl.ah trivial rfl rfl rfl rfl rfl ?_
   refine Pl.ah trivial rfl rfl rfl rfl rfl ?_
   refine pg trivial rfl rfl rfl rfl rfl ?_
   refine Pl.aI (v:=.int .i64 ((done.length+1:Nat):Int)) trivial rfl rfl rfl rfl rfl rfl (fun X=>j6 (by omega) (by omega) (by omega) X) ?_
   refine aP trivial rfl rfl rfl rfl rfl rfl (I8 _ _ _ (done.length+1) _ rfl (by omega)) ?_
   refine bg trivial rfl rfl rfl rfl rfl (oZ _ _) ?_
   refine Pl.aH trivial rfl rfl rfl rfl rfl (Gr.Qy hGQ (by simp [hcl];omega)) ?_
   refine bG trivial rfl rfl rfl rfl rfl ?_
   refine Pl.aI (v:=.bool true) trivial rfl rfl rfl rfl rfl rfl (fun X=>kY (decide_eq_true (rC qj)) X) ?_
   refine Pl.ak ?_
   repeat refine Pl.az ?_
   refine Pl.dh rfl ?_
   repeat refine Pl.az ?_
   refine Pl.bN ?_
   repeat refine Pl.az ?_
   refine Pl.cK ?_
   repeat refine Pl.az ?_
   refine Pl.nK (S:=fun X=>Ext w1 X) fo (Ext.drew (Ext.refl _)) ?_
   generalize w1.drew=w2
   intro hS
   refine Pl.aS [(true,0,0),(true,1,1),(true,2,3),(true,3,7),(true,4,15),(true,5,31),(true,6,63),(true,7,127),(true,8,255),(true,9,511),(true,10,1023),(true,11,2047)] 4095 4 (by repeat first | exact Pl.aD | refine Pl.gW ?_ | refine Pl.jc ?_ | refine Pl.mW ?_) (by kernel_rfl) (by kernel_rfl) (by kernel_rfl) ?_
   refine Pl.ah hS rfl rfl rfl rfl rfl ?_
   refine Pl.ah hS rfl rfl rfl rfl rfl ?_
   refine pg hS rfl rfl rfl rfl rfl ?_
   refine Pl.aI (v:=.int .i64 (done.length:Int)) hS rfl rfl rfl rfl rfl rfl (fun X=>j6 (by omega) (by omega) (by omega) X) ?_
   refine aP hS rfl rfl rfl rfl rfl rfl (I8 _ _ _ done.length _ rfl (by omega)) ?_
   refine Pl.aR hS rfl rfl rfl rfl rfl (fun X hX=>Gr.wy (Gr.ext hGP hX) (by omega) rfl) ?_
   refine Pl.ah hS rfl rfl rfl rfl rfl ?_
   refine Pl.ah hS rfl rfl rfl rfl rfl ?_
   refine pg hS rfl rfl rfl rfl rfl ?_
   refine Pl.aI (v:=.int .i64 ((done.length+1:Nat):Int)) hS rfl rfl rfl rfl rfl rfl (fun X=>j6 (by omega) (by omega) (by omega) X) ?_
   refine aP hS rfl rfl rfl rfl rfl rfl (I8 _ _ _ (done.length+1) _ rfl (by omega)) ?_
   refine Pl.aR hS rfl rfl rfl rfl rfl (fun X hX=>Gr.wy (Gr.ext hGQ hX) (by simp [hcl];omega) rfl) ?_
   refine Pl.ak ?_
   refine Pl.lm 2 16383 (fun l' w'=>∃ N8 N9,l'=[(8,.pointer (some ⟨N8,0,none⟩)),(9,.pointer (some ⟨N9,0,none⟩)),(6,.slice (some ⟨g,0,none⟩) (done.length+2) cap),(7,qv),(38,.agg #[.slice AP (limbs P).length cP,.bool ni,.slice nk nA nC,.bool nD,.slice nE nG nH]),(44,.agg #[.slice AQ (limbs Q).length cQ,.bool zD,.slice zF zG zH,.bool zI,.slice zJ zK zL])]∧Ext w1 w'∧w1.heap.size≤N8∧w1.heap.size≤N9∧N8≠N9∧Cb w' N8 63 [.slice none 0 0,.bool false,.slice none 0 0,.bool false,.slice none 0 0]∧Cb w' N9 63 [.slice none 0 0,.bool false,.slice none 0 0,.bool false,.slice none 0 0]) ?_ ?_
   rotate_left
   · intro hK
     refine Pl.dY [12,13] 3 (by kernel_rfl) (by kernel_rfl) (by kernel_rfl) (Pl.aJ ?_ (Pl.aJ ?_ Pl.aX))
     · skip
       refine eH rfl rfl rfl rfl (z:=.agg ([.slice none 0 0,.bool false,.slice none 0 0,.bool false,.slice none 0 0]:List Value).toArray) (by kernel_rfl) (fun _ e=>hS.below e) ?_
       intro N8 w3 hA3 hN3 k3
       replace k3:Cb w3 N8 63 [.slice none 0 0,.bool false,.slice none 0 0,.bool false,.slice none 0 0]:=k3
       refine Pl.ak ?_
       refine Pl.aS [(false,13,8191)] 16383 2 (by repeat first | exact Pl.aD | refine Pl.gW ?_ | refine Pl.jc ?_ | refine Pl.mW ?_) (by kernel_rfl) (by kernel_rfl) (by kernel_rfl) ?_
       refine eH rfl rfl rfl rfl (z:=.agg ([.slice none 0 0,.bool false,.slice none 0 0,.bool false,.slice none 0 0]:List Value).toArray) (by kernel_rfl) (fun _ e=>(hS.below hA3).below e) ?_
       intro N9 w4 hA4 RG k4
       replace k4:Cb w4 N9 63 [.slice none 0 0,.bool false,.slice none 0 0,.bool false,.slice none 0 0]:=k4
       refine Pl.ak ?_
       refine Pl.bK _ ?_ (hK _ _ ⟨N8,N9,rfl,hS.below (hA3.below hA4),Nat.le_trans hS.size hN3,Nat.le_trans (hS.below hA3).size RG,Nat.ne_of_lt (Nat.lt_of_lt_of_le k3.lt RG),Cb.ext k3 hA4,k4⟩)
       exact (Pl.aa rfl (Pl.aa rfl (Pl.aa rfl (Pl.aa rfl (Pl.aa rfl (Pl.aa rfl Pl.aK))))))
     · skip
       refine eH rfl rfl rfl rfl (z:=.agg ([.slice none 0 0,.bool false,.slice none 0 0,.bool false,.slice none 0 0]:List Value).toArray) (by kernel_rfl) (fun _ e=>hS.below e) ?_
       intro N9 w3 hA3 hN3 k3
       replace k3:Cb w3 N9 63 [.slice none 0 0,.bool false,.slice none 0 0,.bool false,.slice none 0 0]:=k3
       refine Pl.ak ?_
       refine Pl.aS [(false,12,12287)] 16383 2 (by repeat first | exact Pl.aD | refine Pl.gW ?_ | refine Pl.jc ?_ | refine Pl.mW ?_) (by kernel_rfl) (by kernel_rfl) (by kernel_rfl) ?_
       refine eH rfl rfl rfl rfl (z:=.agg ([.slice none 0 0,.bool false,.slice none 0 0,.bool false,.slice none 0 0]:List Value).toArray) (by kernel_rfl) (fun _ e=>(hS.below hA3).below e) ?_
       intro N8 w4 hA4 RG k4
       replace k4:Cb w4 N8 63 [.slice none 0 0,.bool false,.slice none 0 0,.bool false,.slice none 0 0]:=k4
       refine Pl.ak ?_
       refine Pl.bK _ ?_ (hK _ _ ⟨N8,N9,rfl,hS.below (hA3.below hA4),Nat.le_trans (hS.below hA3).size RG,Nat.le_trans hS.size hN3,Nat.ne_of_gt (Nat.lt_of_lt_of_le k3.lt RG),k4,Cb.ext k3 hA4⟩)
       exact (Pl.aa rfl (Pl.aa rfl (Pl.aa rfl (Pl.aa rfl (Pl.aa rfl (Pl.aa rfl Pl.aK))))))
   rintro _ w3 ⟨N8,N9,rfl,Ex,hN8,MN,hne,k8,k9⟩
   refine Pl.aS [(false,14,16383),(false,15,32767)] 65535 0 (by repeat first | exact Pl.aD | refine Pl.gW ?_ | refine Pl.jc ?_ | refine Pl.mW ?_) (by kernel_rfl) (by kernel_rfl) (by kernel_rfl) ?_
   refine fT (new:=[.slice AP (limbs P).length cP,.bool ni,.slice nk nA nC,.bool nD,.slice nE nG nH]) k8 rfl rfl rfl rfl rfl rfl (by kernel_rfl) rfl (by simp [Value.oneCell']) (Ex.uJ hN8 _) ?_
   have pG:=Ex.uJ hN8 (([.slice AP (limbs P).length cP,.bool ni,.slice nk nA nC,.bool nD,.slice nE nG nH]:List Value).toArray)
   replace k9:=Cb.other k9 N8 ([.slice AP (limbs P).length cP,.bool ni,.slice nk nA nC,.bool nD,.slice nE nG nH]:List Value).toArray hne.symm
   replace k8:=Cb.put k8 [.slice AP (limbs P).length cP,.bool ni,.slice nk nA nC,.bool nD,.slice nE nG nH]
   generalize w3.setRow N8 ([.slice AP (limbs P).length cP,.bool ni,.slice nk nA nC,.bool nD,.slice nE nG nH]:List Value).toArray=w4 at *
   refine fT (new:=[.slice AQ (limbs Q).length cQ,.bool zD,.slice zF zG zH,.bool zI,.slice zJ zK zL]) k9 rfl rfl rfl rfl rfl rfl (by kernel_rfl) rfl (by simp [Value.oneCell']) (pG.uJ MN _) ?_
   have hS5:=pG.uJ MN (([.slice AQ (limbs Q).length cQ,.bool zD,.slice zF zG zH,.bool zI,.slice zJ zK zL]:List Value).toArray)
   replace k8:=Cb.other k8 N9 ([.slice AQ (limbs Q).length cQ,.bool zD,.slice zF zG zH,.bool zI,.slice zJ zK zL]:List Value).toArray hne
   replace k9:=Cb.put k9 [.slice AQ (limbs Q).length cQ,.bool zD,.slice zF zG zH,.bool zI,.slice zJ zK zL]
   generalize w4.setRow N9 ([.slice AQ (limbs Q).length cQ,.bool zD,.slice zF zG zH,.bool zI,.slice zJ zK zL]:List Value).toArray=w5 at *
   refine Pl.ak ?_
   refine Pl.G_V (by kernel_rfl) ?_
   have mP:=hM.2.2.2.2.2.2.1
   have mQ:=hM.2.2.2.2.2.2.2
   have hQn:Q≠0:=Nat.ne_of_gt qj
   repeat refine Pl.az ?_
   refine Pl.ay (by kernel_rfl) ?_
   refine bg trivial rfl rfl rfl rfl rfl (oZ _ _) ?_
   refine Pl.aH trivial rfl rfl rfl rfl rfl (Cb.fO (j:=0) k8 rfl) ?_
   refine bg trivial rfl rfl rfl rfl rfl (oZ _ _) ?_
   refine Pl.aH trivial rfl rfl rfl rfl rfl (Cb.fO (j:=0) k9 rfl) ?_
   refine Pl.aA rfl rfl rfl rfl rfl (fun u X=>Pl.enters Tryz.func36 (by kernel_rfl) rfl u X) ?_
   refine Calls.mono (jU _ _ _ P Q _ _ (Un.below hP hS5) (Un.below hQ hS5) (mP.le (by decide)) (mQ.le (by decide)) hQn rfl rfl) ?_
   rintro e w6 ⟨⟨vk,vr,rfl,hk,hr⟩,aZ⟩
   refine ⟨_,rfl,trivial,?_⟩
   refine Pl.ah trivial rfl rfl rfl rfl rfl ?_
   refine Pl.aB trivial rfl rfl rfl rfl rfl rfl ?_
   refine Pl.aB trivial rfl rfl rfl rfl rfl rfl ?_
   refine Pl.aB trivial rfl rfl rfl rfl rfl rfl ?_
   refine Pl.aj trivial rfl rfl rfl rfl rfl ?_
   refine Pl.aj trivial rfl rfl rfl rfl rfl ?_
   refine Pl.aj trivial rfl rfl rfl rfl rfl ?_
   refine Pl.ak ?_
   have sk:Sn (P/Q) 90:=Sn.div mP
   have sr:Sn (P%Q) 90:=Sn.mod mQ hQn
   obtain ⟨Ak,ck,rfl,-⟩:=Un.sh hk
   obtain ⟨Ar,cr,rfl,-⟩:=Un.sh hr
   repeat refine Pl.az ?_
   refine Pl.ay (by kernel_rfl) ?_
   refine Pl.ah trivial rfl rfl rfl rfl rfl ?_
   refine Pl.aA rfl rfl rfl rfl rfl (fun u X=>Pl.enters Tryz.func33 (by kernel_rfl) rfl u X) ?_
   refine Calls.mono (kD _ _ _ hk (sk.le (by decide))) ?_
   rintro e w7 ⟨vb,rfl,hby,bW⟩
   obtain ⟨pb,Ab,lb,cb,rfl⟩:=Zn.sh hby
   refine ⟨_,rfl,trivial,?_⟩
   refine eH rfl rfl rfl rfl (z:=.agg ([.bool false,.slice none 0 0]:List Value).toArray) (by kernel_rfl) (fun _ _=>trivial) ?_
   intro I9 w8 cB aeu k13
   replace k13:Cb w8 I9 27 [.bool false,.slice none 0 0]:=k13
   refine fT (new:=[.bool pb,.slice Ab lb cb]) k13 rfl rfl rfl rfl rfl rfl (by kernel_rfl) rfl (by simp [Value.oneCell']) trivial ?_
   have hX8:=(Ext.refl w7).below cB
   have ZE:=hX8.uJ aeu (([.bool pb,.slice Ab lb cb]:List Value).toArray)
   replace k13:=Cb.put k13 [.bool pb,.slice Ab lb cb]
   generalize w8.setRow I9 ([.bool pb,.slice Ab lb cb]:List Value).toArray=w9 at *
   refine Pl.ak ?_
   replace k8:=Cb.ext k8 (aZ.below (bW.below ZE))
   replace k9:=Cb.ext k9 (aZ.below (bW.below ZE))
   replace hby:=Zn.below hby ZE
   have hF9:=hS5.below (aZ.below (bW.below ZE))
   repeat refine Pl.az ?_
   refine Pl.iN (S:=fun X=>Cb X N8 63 [.slice AP (limbs P).length cP,.bool ni,.slice nk nA nC,.bool nD,.slice nE nG nH]∧Cb X N9 63 [.slice AQ (limbs Q).length cQ,.bool zD,.slice zF zG zH,.bool zI,.slice zJ zK zL]∧Cb X I9 27 [.bool pb,.slice Ab lb cb]) [(true,0,0),(true,1,1),(true,2,3),(true,3,7),(true,4,15),(true,5,31),(true,6,63),(true,9,127),(true,10,639),(true,11,1663),(true,12,3711),(true,13,7807),(false,7,15999),(false,8,16127),(false,14,16383),(false,15,32767),(true,16,65535),(false,17,131071),(false,18,262143),(true,19,524287)] fo (by repeat first | exact Pl.aD | refine Pl.gW ?_ | refine Pl.jc ?_ | refine Pl.mW ?_) (by kernel_rfl) ⟨Cb.ext k8 (Ext.drew (Ext.refl _)),Cb.ext k9 (Ext.drew (Ext.refl _)),Cb.ext k13 (Ext.drew (Ext.refl _))⟩ ?_
   have hD:=Ext.drew (Ext.refl w9)
   generalize w9.drew=xN at *
   intro fP
   have Ec:=hF9.below hD
   have zb:Sz ((P/Q:Nat):Int) 90:=sk.sz
   have zu:Sz uQ 90:=(qI hlb).down hM.2.2.2.2.1.right
   have zv:Sz vQ 90:=(qI hla).down hM.2.2.2.2.2.1.right
   have zu0:Sz uP 90:=(qI hlb).down hM.2.2.2.2.1.left
   have zv0:Sz vP 90:=(qI hla).down hM.2.2.2.2.2.1.left
   have zbu:Sz (((P/Q:Nat):Int)*uQ) 200:=Sz.mul zb zu (by decide)
   have zbv:Sz (((P/Q:Nat):Int)*vQ) 200:=Sz.mul zb zv (by decide)
   have hF:=Ec
   refine Pl.ah fP rfl rfl rfl rfl rfl ?_
   refine Pl.ah fP rfl rfl rfl rfl rfl ?_
   refine bg fP rfl rfl rfl rfl rfl (wu _) ?_
   refine Pl.aR fP rfl rfl rfl rfl rfl (fun X hX=>Cb.bJ hX.1 1 [.bool ni,.slice nk nA nC] rfl _ _ rfl rfl (by kernel_rfl)) ?_
   refine Pl.aR fP rfl rfl rfl rfl rfl (fun X hX=>Cb.load hX.2.2 _ _ rfl rfl (by kernel_rfl)) ?_
   refine bg fP rfl rfl rfl rfl rfl (wu _) ?_
   refine Pl.aR fP rfl rfl rfl rfl rfl (fun X hX=>Cb.bJ hX.2.1 1 [.bool zD,.slice zF zG zH] rfl _ _ rfl rfl (by kernel_rfl)) ?_
   refine bg fP rfl rfl rfl rfl rfl (ww _) ?_
   refine Pl.aR fP rfl rfl rfl rfl rfl (fun X hX=>Cb.bJ hX.1 3 [.bool nD,.slice nE nG nH] rfl _ _ rfl rfl (by kernel_rfl)) ?_
   refine Pl.aR fP rfl rfl rfl rfl rfl (fun X hX=>Cb.load hX.2.2 _ _ rfl rfl (by kernel_rfl)) ?_
   refine bg fP rfl rfl rfl rfl rfl (ww _) ?_
   refine Pl.aR fP rfl rfl rfl rfl rfl (fun X hX=>Cb.bJ hX.2.1 3 [.bool zI,.slice zJ zK zL] rfl _ _ rfl rfl (by kernel_rfl)) ?_
   refine Pl.aA rfl rfl rfl rfl rfl (fun u X=>Pl.enters Tryz.func32 (by kernel_rfl) rfl u X) ?_
   refine Calls.mono (yx _ _ _ _ _ (Zn.below hby hD) (Zn.below huQ Ec) (zb.le (by decide)) (zu.le (by decide)) _ rfl) ?_
   rintro e AU ⟨v11,rfl,PG,bX⟩
   have jN:Cb AU N8 63 [.slice AP (limbs P).length cP,.bool ni,.slice nk nA nC,.bool nD,.slice nE nG nH]∧Cb AU N9 63 [.slice AQ (limbs Q).length cQ,.bool zD,.slice zF zG zH,.bool zI,.slice zJ zK zL]∧Cb AU I9 27 [.bool pb,.slice Ab lb cb]:=⟨Cb.ext fP.1 bX,Cb.ext fP.2.1 bX,Cb.ext fP.2.2 bX⟩
   refine ⟨_,rfl,jN,?_⟩
   refine Pl.aA rfl rfl rfl rfl rfl (fun u X=>Pl.enters Tryz.func78 (by kernel_rfl) rfl u X) ?_
   refine Calls.mono (aev _ _ _ _ _ (Zn.below Qz (Ec.below bX)) PG (zu0.le (by decide)) (zbu.le (by decide)) _ rfl) ?_
   rintro e Kq ⟨v12,rfl,aew,eO⟩
   have tu:Cb Kq N8 63 [.slice AP (limbs P).length cP,.bool ni,.slice nk nA nC,.bool nD,.slice nE nG nH]∧Cb Kq N9 63 [.slice AQ (limbs Q).length cQ,.bool zD,.slice zF zG zH,.bool zI,.slice zJ zK zL]∧Cb Kq I9 27 [.bool pb,.slice Ab lb cb]:=⟨Cb.ext jN.1 eO,Cb.ext jN.2.1 eO,Cb.ext jN.2.2 eO⟩
   obtain ⟨pn1,An1,ln1,cn1,rfl⟩:=Zn.sh aew
   refine ⟨_,rfl,tu,?_⟩
   refine Pl.aA rfl rfl rfl rfl rfl (fun u X=>Pl.enters Tryz.func32 (by kernel_rfl) rfl u X) ?_
   refine Calls.mono (yx _ _ _ _ _ (Zn.below hby (hD.below (bX.below eO))) (Zn.below hvQ (Ec.below (bX.below eO))) (zb.le (by decide)) (zv.le (by decide)) _ rfl) ?_
   rintro e JZ ⟨v13,rfl,aon,dP⟩
   have qN:Cb JZ N8 63 [.slice AP (limbs P).length cP,.bool ni,.slice nk nA nC,.bool nD,.slice nE nG nH]∧Cb JZ N9 63 [.slice AQ (limbs Q).length cQ,.bool zD,.slice zF zG zH,.bool zI,.slice zJ zK zL]∧Cb JZ I9 27 [.bool pb,.slice Ab lb cb]:=⟨Cb.ext tu.1 dP,Cb.ext tu.2.1 dP,Cb.ext tu.2.2 dP⟩
   refine ⟨_,rfl,qN,?_⟩
   refine Pl.aA rfl rfl rfl rfl rfl (fun u X=>Pl.enters Tryz.func78 (by kernel_rfl) rfl u X) ?_
   refine Calls.mono (aev _ _ _ _ _ (Zn.below QA (Ec.below (bX.below (eO.below dP)))) aon (zv0.le (by decide)) (zbv.le (by decide)) _ rfl) ?_
   rintro e Ie ⟨v14,rfl,aex,dO⟩
   have mo:Cb Ie N8 63 [.slice AP (limbs P).length cP,.bool ni,.slice nk nA nC,.bool nD,.slice nE nG nH]∧Cb Ie N9 63 [.slice AQ (limbs Q).length cQ,.bool zD,.slice zF zG zH,.bool zI,.slice zJ zK zL]∧Cb Ie I9 27 [.bool pb,.slice Ab lb cb]:=⟨Cb.ext qN.1 dO,Cb.ext qN.2.1 dO,Cb.ext qN.2.2 dO⟩
   obtain ⟨pn2,An2,ln2,cn2,rfl⟩:=Zn.sh aex
   refine ⟨_,rfl,mo,?_⟩
   refine Pl.dV (v:=.agg #[.slice Ar (limbs (P%Q)).length cr,.bool pn1,.slice An1 ln1 cn1,.bool pn2,.slice An2 ln2 cn2]) mo rfl rfl rfl (fun ρ hρ X _=>by have e1:=hρ.tmp 57 _ rfl;have e2:=hρ.tmp 64 _ rfl;have e3:=hρ.tmp 71 _ rfl;simp [go_sem,e1,e2,e3]) ?_
   refine NH rfl rfl rfl rfl rfl (fun Y e=>⟨Cb.ext mo.1 e,Cb.ext mo.2.1 e,Cb.ext mo.2.2 e⟩) ?_
   intro M EA dX aoo
   have xw:Cb EA N8 63 [.slice AP (limbs P).length cP,.bool ni,.slice nk nA nC,.bool nD,.slice nE nG nH]∧Cb EA N9 63 [.slice AQ (limbs Q).length cQ,.bool zD,.slice zF zG zH,.bool zI,.slice zJ zK zL]∧Cb EA I9 27 [.bool pb,.slice Ab lb cb]:=⟨Cb.ext mo.1 dX,Cb.ext mo.2.1 dX,Cb.ext mo.2.2 dX⟩
   have Ja:=Ec.below (bX.below (eO.below (dP.below (dO.below dX))))
   have g15:=Gr.ext hG Ja
   have q15:=Gr.ext hGq Ja
   have hnews:∀ j u,([.slice Ar (limbs (P%Q)).length cr,.bool pn1,.slice An1 ln1 cn1,.bool pn2,.slice An2 ln2 cn2]:List Value)[j]?=some u→EA.cell? ((⟨M,0,none⟩:Addr).add j)=some u:=by
    intro j u hj
    rw [Addr.add_mid,Nat.zero_add]
    exact aoo.cellAt hj
   have Ua:(Tryz.prog.info? 63).map (fun i=>(i.zero,i.size,i.bytes))=some (some (.agg #[.slice none 0 0,.bool false,.slice none 0 0,.bool false,.slice none 0 0]),5,88):=by kernel_rfl
   obtain ⟨inf,hi,hz⟩:=Option.map_eq_some_iff.1 Ua
   simp only [Prod.mk.injEq] at hz
   obtain ⟨aop,aoq,aor⟩:=hz
   obtain ⟨lv',w16,aot,aou,NJ⟩:=Pl.CO (P:=Tryz.prog) EA 59 59 inf _ 88 rfl hi aop aoq aor rfl (iC (sG _ _ _) (aF (aF aN))) g15 ⟨M,0,none⟩ 1 1 [.slice Ar (limbs (P%Q)).length cr,.bool pn1,.slice An1 ln1 cn1,.bool pn2,.slice An2 ln2 cn2] rfl (by decide) hnews (by simp [Value.oneCell']) (iC (sG _ _ _) (aF (aF aN))) (by unfold maxLen;omega) (by omega) (Nat.le_trans hE.size Ja.size)
   have Jb:=Kp.grown g15 (fun _ h=>h) NJ
   have keep:∀ {N:Nat} {T:TypeId} {cs:List Value},Cb EA N T cs→N≠g→Cb w16 N T cs:=fun {N T cs} hC hn=>(NJ.block N hC.lt (by simp [Value.ownBlock];omega)).trans hC
   have aAk:g<N8:=Nat.lt_of_lt_of_le hgw hN8
   have aAl:g<N9:=Nat.lt_of_lt_of_le hgw MN
   have auJ:g<I9:=Nat.lt_of_lt_of_le hgw (Nat.le_trans (hS5.below (aZ.below bW)).size aeu)
   have aey:Cb w16 N8 63 [.slice AP (limbs P).length cP,.bool ni,.slice nk nA nC,.bool nD,.slice nE nG nH]∧Cb w16 N9 63 [.slice AQ (limbs Q).length cQ,.bool zD,.slice zF zG zH,.bool zI,.slice zJ zK zL]∧Cb w16 I9 27 [.bool pb,.slice Ab lb cb]:=⟨keep xw.1 (by omega),keep xw.2.1 (by omega),keep xw.2.2 (by omega)⟩
   have q16:=Gr.apart q15 g15 (by decide) NJ
   have aez:=Ext.grown (hE.below Ja) g15 (Nat.le_refl _) NJ
   refine vH (t := 59) (S:=fun X=>Cb X N8 63 [.slice AP (limbs P).length cP,.bool ni,.slice nk nA nC,.bool nD,.slice nE nG nH]∧Cb X N9 63 [.slice AQ (limbs Q).length cQ,.bool zD,.slice zF zG zH,.bool zI,.slice zJ zK zL]∧Cb X I9 27 [.bool pb,.slice Ab lb cb]) (v':=lv') (w':=w16) rfl rfl rfl rfl rfl rfl rfl aot aey ?_
   refine Pl.aj aey rfl rfl rfl rfl rfl ?_
   refine Pl.ak ?_
   have kF:Kp w1 w16:=(Kp.ext Ja).trans Jb
   have aeA:=Un.kp hk ((Kp.ext (bW.below (ZE.below (hD.below (bX.below (eO.below (dP.below (dO.below dX)))))))).trans Jb)
   have aeB:=Un.kp hr ((Kp.ext (bW.below (ZE.below (hD.below (bX.below (eO.below (dP.below (dO.below dX)))))))).trans Jb)
   have aeC:=Zn.kp aew ((Kp.ext (dP.below (dO.below dX))).trans Jb)
   have aeD:=Zn.kp aex ((Kp.ext dX).trans Jb)
   have aeE:=hQs.kp kF
   have hPQ:=Un.kp hQ kF
   have aeF:=Zn.kp huQ kF
   have aeG:=Zn.kp hvQ kF
   repeat refine Pl.az ?_
   refine Pl.ay (by kernel_rfl) ?_
   refine Pl.ah trivial rfl rfl rfl rfl rfl ?_
   refine Pl.ah trivial rfl rfl rfl rfl rfl ?_
   refine Ub rfl rfl rfl rfl rfl (fun _ _=>trivial) ?_
   intro M2 Ww fU aov
   have TN:=Gr.ext q16 fU
   have g17:=Gr.ext aou fU
   have Uc:∀ j u,[Value.slice Ak (limbs (P/Q)).length ck][j]?=some u→Ww.cell? ((⟨M2,0,none⟩:Addr).add j)=some u:=by
    intro j u hj
    rw [Addr.add_mid,Nat.zero_add]
    exact aov.cellAt hj
   have aeH:(Tryz.prog.info? 22).map (fun i=>(i.zero,i.size,i.bytes))=some (some (.slice none 0 0),1,24):=by kernel_rfl
   obtain ⟨aow,hi2,hz2⟩:=Option.map_eq_some_iff.1 aeH
   simp only [Prod.mk.injEq] at hz2
   obtain ⟨hy1,hy2,hy3⟩:=hz2
   obtain ⟨qv',w18,aox,aoy,Ud⟩:=Pl.CO (P:=Tryz.prog) Ww 30 30 aow _ 24 rfl hi2 hy1 hy2 hy3 rfl wz TN ⟨M2,0,none⟩ 1 1 [.slice Ak (limbs (P/Q)).length ck] rfl (by decide) Uc (by simp [Value.oneCell']) (cZ _ _ _) (by unfold maxLen;omega) (by omega) (Nat.le_trans aez.size fU.size)
   refine vH rfl rfl rfl rfl rfl rfl rfl aox trivial ?_
   refine Pl.aj trivial rfl rfl rfl rfl rfl ?_
   refine Pl.ak ?_
   have k18:=(Kp.ext fU).trans (Kp.grown TN (fun _ h=>h) Ud)
   have g18:=Gr.apart g17 TN (by decide) Ud
   have aoz:=Ext.grown (aez.below fU) TN (Nat.le_refl _) Ud
   refine Pl.bZ ?_
   refine Pl.iY [(6,lv'),(7,qv')] (Pl.aa rfl (Pl.aa rfl Pl.aK)) (Nat.mod_lt P qj) ⟨Q,uQ,vQ,_,_,done++[P/Q],lv',qv',hM.step hQn,⟨c++[.slice AP (limbs P).length cP,.bool ni,.slice nk nA nC,.bool nD,.slice nE nG nH],_,[.slice Ar (limbs (P%Q)).length cr,.bool pn1,.slice An1 ln1 cn1,.bool pn2,.slice An2 ln2 cn2],_,by simp [hcl];omega,by simpa using g18,⟨_,_,_,_,_,_,_,_,_,_,rfl,hPQ.kp k18,aeF.kp k18,aeG.kp k18⟩,⟨_,_,_,_,_,_,_,_,_,_,rfl,aeB.kp k18,aeC.kp k18,aeD.kp k18⟩,by simpa using aoy,(aeE.kp k18).snoc (aeA.kp k18)⟩,aoz,rfl⟩
end Go.Proofs.YtnilonnkcbkdmaaGreatDoor
namespace Go.Proofs.YtnilonnkcbkdmaaGreatDoor
open Go.RowKit
set_option linter.unusedVariables false
set_option linter.unusedSimpArgs false
set_option maxHeartbeats 400000
theorem Ib.aeI {w:World} {N:Nat} {T:TypeId} {b:Bool} {m:Value} (h:Cb w N T [.bool b,m]):Ib w N b m:=by
 have h0:=h.cellAt (j:=0) rfl
 have h1:=h.cellAt (j:=1) rfl
 have f0:w.frozen? ⟨N,0,none⟩=false:=by unfold Cb at h;simp [World.frozen?,h]
 have f1:w.frozen? ⟨N,1,none⟩=false:=by unfold Cb at h;simp [World.frozen?,h]
 exact ⟨h.lt,h0,h1,f0,f1⟩
set_option maxRecDepth 100000 in
set_option maxHeartbeats 4000000 in
theorem wB (w:World) (va vb:Value) (a b:Nat) (ha:Un w va a) (hb:Un w vb b) (hla:Sn a 90) (hlb:Sn b 90) :
  Calls Tryz.prog 16 #[va,vb] w fun e w'=>∃ g u v,e = .returned (.tuple #[g,u,v])∧Un w' g (Nat.gcd a b)∧Zn w' u (cf (quo a b) 1 0).1∧Zn w' v (cf (quo a b) 0 1).1∧Ext w w':=by
 refine Pl.aV (n:=28) (vs:=[va,vb]) Tryz.func16 rfl (by kernel_rfl) (by simp) ?_
 repeat refine Pl.az ?_
 refine Pl.ay (by kernel_rfl) ?_
 refine Pl.aj trivial rfl rfl rfl rfl rfl ?_
 refine eH rfl rfl rfl rfl (z:=.agg ([.bool false,.slice none 0 0]:List Value).toArray) (by kernel_rfl) (fun _ _=>trivial) ?_
 intro N5 w1 hB1 hN5 zx
 replace zx:Cb w1 N5 27 [.bool false,.slice none 0 0]:=zx
 refine eH rfl rfl rfl rfl (z:=.agg ([.bool false,.slice none 0 0]:List Value).toArray) (by kernel_rfl) (fun _ _=>trivial) ?_
 intro N6 w2 hB2 hN6 CP
 replace CP:Cb w2 N6 27 [.bool false,.slice none 0 0]:=CP
 refine Pl.ak ?_
 repeat refine Pl.az ?_
 refine Pl.ay (by kernel_rfl) ?_
 refine Pl.ah trivial rfl rfl rfl rfl rfl ?_
 refine Pl.ah trivial rfl rfl rfl rfl rfl ?_
 refine Pl.aA rfl rfl rfl rfl rfl (fun u X=>Pl.enters Tryz.func47 (by kernel_rfl) rfl u X) ?_
 refine Calls.mono (uk _ _ _ a b (Un.below ha (hB1.below hB2)) (Un.below hb (hB1.below hB2)) hla hlb) ?_
 rintro e w3 ⟨lv,qv,done,P,uP,vP,uQ,vQ,rfl,hI,hdn,hPg,huE,hvE,hB3⟩
 refine ⟨_,rfl,trivial,?_⟩
 refine Pl.ah trivial rfl rfl rfl rfl rfl ?_
 refine Pl.aB trivial rfl rfl rfl rfl rfl rfl ?_
 refine Pl.aB trivial rfl rfl rfl rfl rfl rfl ?_
 refine Pl.aj trivial rfl rfl rfl rfl rfl ?_
 refine Pl.aj trivial rfl rfl rfl rfl rfl ?_
 refine Pl.ak ?_
 have hsh:=lH (a:=a) (hlb.le (show 90≤1000 by decide))
 rw [← hdn] at hsh
 obtain ⟨c,RP,RQ,xs,hcl,hG,⟨AP,cP,ni,nk,nA,nC,nD,nE,nG,nH,rfl,hP,Qz,QA⟩,-,-,-⟩:=hI
 obtain ⟨g,cap,rfl,hgw⟩:=Gr.shape hG (by omega)
 repeat refine Pl.az ?_
 refine Pl.ay (by kernel_rfl) ?_
 refine Pl.ah trivial rfl rfl rfl rfl rfl ?_
 refine Pl.ah trivial rfl rfl rfl rfl rfl ?_
 refine pg trivial rfl rfl rfl rfl rfl ?_
 refine Pl.aI (v:=.int .i64 (done.length:Int)) trivial rfl rfl rfl rfl rfl rfl (fun X=>j6 (by omega) (by omega) (by omega) X) ?_
 refine aP trivial rfl rfl rfl rfl rfl rfl (I8 _ _ _ done.length _ rfl (by omega)) ?_
 refine Pl.aH trivial rfl rfl rfl rfl rfl (Gr.wy hG (by omega) rfl) ?_
 refine eH rfl rfl rfl rfl (z:=.agg ([.slice none 0 0,.bool false,.slice none 0 0,.bool false,.slice none 0 0]:List Value).toArray) (by kernel_rfl) (fun _ _=>trivial) ?_
 intro N9 w4 hB4 MN ZF
 replace ZF:Cb w4 N9 63 [.slice none 0 0,.bool false,.slice none 0 0,.bool false,.slice none 0 0]:=ZF
 refine fT (new:=[.slice AP (limbs P).length cP,.bool ni,.slice nk nA nC,.bool nD,.slice nE nG nH]) ZF rfl rfl rfl rfl rfl rfl (by kernel_rfl) rfl (by simp [Value.oneCell']) trivial ?_
 have zS:=(((hB1.below hB2).below hB3).below hB4).uJ (Nat.le_trans ((hB1.below hB2).below hB3).size MN) (([.slice AP (limbs P).length cP,.bool ni,.slice nk nA nC,.bool nD,.slice nE nG nH]:List Value).toArray)
 have hF5:=((Ext.refl w3).below hB4).uJ MN (([.slice AP (limbs P).length cP,.bool ni,.slice nk nA nC,.bool nD,.slice nE nG nH]:List Value).toArray)
 replace ZF:=Cb.put ZF [.slice AP (limbs P).length cP,.bool ni,.slice nk nA nC,.bool nD,.slice nE nG nH]
 generalize w4.setRow N9 ([.slice AP (limbs P).length cP,.bool ni,.slice nk nA nC,.bool nD,.slice nE nG nH]:List Value).toArray=w5 at *
 refine Pl.ak ?_
 have e56:N5≠N6:=Nat.ne_of_lt (Nat.lt_of_lt_of_le zx.lt hN6)
 have e59:N5≠N9:=Nat.ne_of_lt (Nat.lt_of_lt_of_le (Cb.ext zx (hB2.below hB3)).lt MN)
 have e69:N6≠N9:=Nat.ne_of_lt (Nat.lt_of_lt_of_le (Cb.ext CP hB3).lt MN)
 replace zx:=Cb.ext zx ((hB2.below hB3).below hF5)
 replace CP:=Cb.ext CP (hB3.below hF5)
 replace hP:=Un.below hP hF5
 replace Qz:=Zn.below Qz hF5
 replace QA:=Zn.below QA hF5
 repeat refine Pl.az ?_
 refine Pl.iN (S:=fun X=>Cb X N9 63 [.slice AP (limbs P).length cP,.bool ni,.slice nk nA nC,.bool nD,.slice nE nG nH]) [(true,0,0),(true,1,1),(true,2,3),(true,3,7),(true,4,15),(true,5,31),(true,6,63),(false,7,127),(false,8,255)] fo Pl.aD (by kernel_rfl) (Cb.ext ZF (Ext.drew (Ext.refl _))) ?_
 have hD:=Ext.drew (Ext.refl w5)
 generalize w5.drew=w6 at *
 intro lJ
 replace zx:=Cb.ext zx hD
 replace CP:=Cb.ext CP hD
 replace hP:=Un.below hP hD
 replace Qz:=Zn.below Qz hD
 replace QA:=Zn.below QA hD
 have AL:=zS.below hD
 refine bg lJ rfl rfl rfl rfl rfl (oZ _ _) ?_
 refine Pl.aR lJ rfl rfl rfl rfl rfl (fun X hX=>Cb.fO (j:=0) hX rfl) ?_
 refine bg lJ rfl rfl rfl rfl rfl (wu _) ?_
 refine Pl.aR lJ rfl rfl rfl rfl rfl (fun X hX=>Cb.bJ hX 1 [.bool ni,.slice nk nA nC] rfl _ _ rfl rfl (by kernel_rfl)) ?_
 refine bg lJ rfl rfl rfl rfl rfl (ww _) ?_
 refine Pl.aR lJ rfl rfl rfl rfl rfl (fun X hX=>Cb.bJ hX 3 [.bool nD,.slice nE nG nH] rfl _ _ rfl rfl (by kernel_rfl)) ?_
 refine Pl.aj lJ rfl rfl rfl rfl rfl ?_
 refine fT (new:=[.bool ni,.slice nk nA nC]) zx rfl rfl rfl rfl rfl rfl (by kernel_rfl) rfl (by simp [Value.oneCell']) (Cb.other lJ N5 _ e59.symm) ?_
 have pF:=Cb.other lJ N5 (([.bool ni,.slice nk nA nC]:List Value).toArray) e59.symm
 have aoA:=Kp.put zx (aF aN) (([.bool ni,.slice nk nA nC]:List Value).toArray)
 replace CP:=Cb.other CP N5 (([.bool ni,.slice nk nA nC]:List Value).toArray) e56.symm
 replace zx:=Cb.put zx [.bool ni,.slice nk nA nC]
 replace AL:=AL.uJ hN5 (([.bool ni,.slice nk nA nC]:List Value).toArray)
 generalize w6.setRow N5 ([.bool ni,.slice nk nA nC]:List Value).toArray=w7 at *
 refine fT (new:=[.bool nD,.slice nE nG nH]) CP rfl rfl rfl rfl rfl rfl (by kernel_rfl) rfl (by simp [Value.oneCell']) (Cb.other pF N6 _ e69.symm) ?_
 have oG:=Cb.other pF N6 (([.bool nD,.slice nE nG nH]:List Value).toArray) e69.symm
 have aoB:=Kp.put CP (aF aN) (([.bool nD,.slice nE nG nH]:List Value).toArray)
 replace zx:=Cb.other zx N6 (([.bool nD,.slice nE nG nH]:List Value).toArray) e56
 replace CP:=Cb.put CP [.bool nD,.slice nE nG nH]
 replace AL:=AL.uJ (Nat.le_trans hB1.size hN6) (([.bool nD,.slice nE nG nH]:List Value).toArray)
 generalize w7.setRow N6 ([.bool nD,.slice nE nG nH]:List Value).toArray=w8 at *
 refine Pl.ak ?_
 refine FI rfl rfl rfl rfl (Ib.aeI zx) (Ib.aeI CP) ?_
 have kk:=aoA.trans aoB
 exact ⟨_,_,_,rfl,by rw [← hPg];exact Un.kp hP kk,by rw [← huE];exact Zn.kp Qz kk,by rw [← hvE];exact Zn.kp QA kk,AL⟩
end Go.Proofs.YtnilonnkcbkdmaaGreatDoor
namespace Go.Proofs.YtnilonnkcbkdmaaGreatDoor
open Go.RowKit
set_option linter.unusedVariables false
set_option maxHeartbeats 400000
set_option maxRecDepth 100000 in
set_option maxHeartbeats 16000000 in
theorem zk (w:World) (va vb:Value) (a b:Int) (ha:Zn w va a) (hb:Zn w vb b) (hl:(limbs a.natAbs).length≤200) (hl2:(limbs b.natAbs).length≤200) (h0:b≠0) (x y:Int) (hx:a/b=x) (hy:a%b=y) :
  Calls Tryz.prog 61 #[va,vb] w fun e w'=>ZdD w w' e x y:=by
 unfold ZdD
 obtain ⟨p,A,L,c,n,rfl,hu,hL,hz,-,hza,hzn⟩:=ha.open
 obtain ⟨q,B,K,d,m,rfl,hv,hK,hz2,-,xA,Fz⟩:=hb.open
 rw [hza] at hl
 rw [xA] at hl2
 have hm0:m≠0:=by omega
 obtain ⟨Q,hQ⟩:∃ Q,n/m=Q:=⟨_,rfl⟩
 obtain ⟨R,hR⟩:∃ R,n%m=R:=⟨_,rfl⟩
 have hQl:(limbs Q).length≤200:=Nat.le_trans (gV (by rw [← hQ];exact Nat.div_le_self _ _)) hl
 have hRm:R<m:=by rw [← hR];exact Nat.mod_lt _ (by omega)
 have hRl:(limbs R).length≤200:=Nat.le_trans (gV (by omega)) hl2
 have hE0:=((((Ext.refl w).alloc (.cells #[.bool p,.slice A L c] 27)).alloc (.cells #[.bool q,.slice B K d] 27)).alloc (.cells #[.bool false,.slice none 0 0] 27)).alloc (.cells #[.bool false,.slice none 0 0] 27)
 have hI0:=(Ib.aad w (.cells #[.bool p,.slice A L c] 27) (.cells #[.bool q,.slice B K d] 27) false (.slice none 0 0) 27).ext ((Ext.refl _).alloc (.cells #[.bool false,.slice none 0 0] 27))
 have hJ0:=Ib.aad (w.alloc (.cells #[.bool p,.slice A L c] 27)) (.cells #[.bool q,.slice B K d] 27) (.cells #[.bool false,.slice none 0 0] 27) false (.slice none 0 0) 27
 have hN:(w.alloc (.cells #[.bool p,.slice A L c] 27)).heap.size=w.heap.size+1:=by simp
 rw [hN] at hJ0
 have Dh:=(Ib.new w p (.slice A L c) 27).ext ((((Ext.refl _).alloc (.cells #[.bool q,.slice B K d] 27)).alloc (.cells #[.bool false,.slice none 0 0] 27)).alloc (.cells #[.bool false,.slice none 0 0] 27))
 have qj:=(Ib.new2 w (.cells #[.bool p,.slice A L c] 27) q (.slice B K d) 27).ext (((Ext.refl _).alloc (.cells #[.bool false,.slice none 0 0] 27)).alloc (.cells #[.bool false,.slice none 0 0] 27))
 have hD:=Lib.hid (jU _ (.slice A L c) (.slice B K d) n m Q R (hu.below hE0) (hv.below hE0) hl hl2 hm0 hQ hR)
 have hv0:=hv.below hE0
 have hcs:=Ej R
 obtain ⟨LR,hLR⟩:∃ L,(limbs R).length=L:=⟨_,rfl⟩
 have HLR:=Lib.hid hLR
 rw [hLR] at hcs
 by_cases hsp:p=true∧R≠0
 · obtain ⟨rfl,hR0⟩:=hsp
   obtain ⟨k1,k2⟩:=Uy q n m hm0 (by rw [hR];exact hR0)
   rw [hQ,← hz,← hz2,hx] at k1
   rw [hR,← hz,← hz2,hy] at k2
   rw [show (!(true==q)) = !q by cases q<;>rfl] at k1
   have JY:(limbs (Q+1)).length≤1000000000:=by
    have:=gV (show Q+1≤Q+Q+1 by omega)
    have h5:=aac (Q+1) 1
    have h6:(limbs (Q+1)).length≤(limbs Q).length+1:=by
     refine iA ?_
     have h7:Q<LB^(limbs Q).length:=bO (Nat.le_refl _)
     rw [Nat.pow_succ]
     have h8:LB^(limbs Q).length*2≤LB^(limbs Q).length*LB:=Nat.mul_le_mul_left _ (by unfold LB;decide)
     omega
    omega
   have hmR:(limbs (m-R)).length≤1000000000:=by have:=gV (show m-R≤m by omega);omega
   have hAd:=Lib.hid (fun W v u h g=>wm W v u Q 1 h g (by omega) (by have:=qi;have h5:=iA (k:=1) (show 1<LB^1 by unfold LB;decide);omega) (Q+1) rfl)
   have hSb:=Lib.hid (fun W v h g=>TR W (.slice B K d) v m R h g (by omega) (by omega) true (decide_eq_true (by omega)) (m-R) rfl)
   have hM1:=Lib.hid (fun W v (h:Un W v (Q+1))=>adJ W (!q) v (limbs (Q+1)) h JY (Q+1) (aG _) x k1)
   have hM2:=Lib.hid (fun W v (h:Un W v (m-R))=>adJ W false v (limbs (m-R)) h hmR (m-R) (aG _) y k2)
   have hlr:¬ (LR=0):=by omega
   have aG9:((LR:Int)==0)=false:=by rw [beq_eq_false_iff_ne];omega
   clear hl hl2 hza hzn xA Fz hz hz2 hL hK ha hb hu hv hN hx hy hQ hR h0 hm0 hcs hLR k1 k2 hRm hR0 JY hmR hQl hRl
   unfold Dv at hD
   go_enter Tryz.func61,Tryz.ntmps61
   go_upto_region 7 with (first
    | (go_at_call 36;refine hD.out.mono ?_;rintro e w2 ⟨⟨vq,vr,rfl,hvq,hvr⟩,hE2⟩;obtain ⟨A2,c2,rfl,-⟩:=Un.sh hvq;obtain ⟨A3,c3,rfl,-⟩:=Un.sh hvr;rw [HLR.out] at hvr ⊢;obtain ⟨p0,p1,p2,p3,p4⟩:=Dh.ext hE2;obtain ⟨q0,q1,q2,q3,q4⟩:=qj.ext hE2;have hv2:=Un.below hv0 hE2)
    | (go_at_call 38;refine (hSb.out _ _ hv2 hvr).mono ?_;rintro e w3 ⟨u3,rfl,hu3,pE⟩;obtain ⟨A5,c5,rfl,-⟩:=Un.sh hu3))
   have aa7:=(((hE0.below hE2).below pE).drew)
   have Bu:=((hI0.ext hE2).ext pE).ext (Ext.refl _).drew
   have hJ3:=((hJ0.ext hE2).ext pE).ext (Ext.refl _).drew
   have hP3:=((Dh.ext hE2).ext pE).ext (Ext.refl _).drew
   have hQ3:=((qj.ext hE2).ext pE).ext (Ext.refl _).drew
   have hS0:(w.heap.size+1+1+1<w3.drew.heap.size∧w3.drew.cell? ⟨w.heap.size,0,none⟩=some (.bool true)∧w3.drew.cell? ⟨w.heap.size,1,none⟩=some (.slice A L c)∧w3.drew.cell? ⟨w.heap.size+1,0,none⟩=some (.bool q)∧w3.drew.cell? ⟨w.heap.size+1,1,none⟩=some (.slice B K d))∧Ext w w3.drew:=⟨⟨hJ3.1,hP3.2.1,hP3.2.2.1,hQ3.2.1,hQ3.2.2.1⟩,aa7⟩
   have aa':=((Un.below hvq pE).below (Ext.refl _).drew)
   have abb:=Un.below hu3 (Ext.refl _).drew
   clear hP3 hQ3 Dh qj p0 p1 p2 p3 p4 q0 q1 q2 q3 q4
   go_region_held3 (fun X=>(w.heap.size+1+1+1<X.heap.size∧X.cell? ⟨w.heap.size,0,none⟩=some (.bool true)∧X.cell? ⟨w.heap.size,1,none⟩=some (.slice A L c)∧X.cell? ⟨w.heap.size+1,0,none⟩=some (.bool q)∧X.cell? ⟨w.heap.size+1,1,none⟩=some (.slice B K d))∧Ext w X)
    (first
     | assumption
     | with_reducible exact hS0
     | with_reducible exact aaJ (by assumption)
     | with_reducible exact aaK (by assumption)
     | exact aaE (by assumption) (by assumption)
     | exact aaE (by assumption) ((Ext.refl _).alloc _))
    (first
     | (go_at_call 30;(refine (hAd.out _ _ _ (Un.below aa' ((Ext.refl _).alloc _)) (jR _)).mono ?_);rintro e w4 ⟨u4,rfl,hu4,wZ⟩;have Q8:=((Ext.refl w3.drew).alloc (.cells #[.int .u32 1] 43)).below wZ;obtain ⟨A4,c4,rfl,-⟩:=Un.sh hu4)
     | (go_at_call 33;((with_reducible refine (hM1.out _ _ hu4).mono ?_);rintro e w6 ⟨u6,rfl,hz6,AL⟩;obtain ⟨b6,A6,L6,c6,rfl⟩:=hz6.sh))
     | (go_at_call 33;(have hX7:=Un.below abb Q8;have hY7:=Un.below hX7 AL;(with_reducible refine (hM2.out _ _ hY7).mono ?_);rintro e w7 ⟨u7,rfl,hz7,hE7⟩;obtain ⟨b7,A7,L7,c7,rfl⟩:=hz7.sh;have hI7:=((Bu.ext Q8).ext AL).ext hE7;have hJ7:=((hJ3.ext Q8).ext AL).ext hE7;obtain ⟨i0,i1,i2,i3,i4⟩:=id hI7;obtain ⟨j0,j1,j2,j3,j4⟩:=id hJ7;have hEE:=((aa7.below Q8).below AL).below hE7)))
   have hZ6:=hz6.below hE7
   have HI7:=Lib.hid hI7
   have HJ7:=Lib.hid hJ7
   clear hI7 hJ7
   go_wp2
   (try simp only [Exit.inBlock,Exit.then])
   refine bodyPost_ret (v:=.tuple #[.agg #[.bool b6,.slice A6 L6 c6],.agg #[.bool b7,.slice A7 L7 c7],.int .i64 0]) (show (results _ _).run _ _=_ from ?_) rfl ⟨⟨_,_,rfl,(hZ6.jS HI7.out (dF _ _ _) _ _).jS (HJ7.out.other (by omega) _ _) (dF _ _ _) _ _,(hz7.jS HI7.out (dF _ _ _) _ _).jS (HJ7.out.other (by omega) _ _) (dF _ _ _) _ _⟩,(hEE.jS (by omega) _ _).jS (by omega) _ _⟩
   simp only [results]
   go_simp
 · have hpr:p=false∨R=0:=by
    cases p
    · exact .inl rfl
    · right
      rcases Nat.eq_zero_or_pos R with h | h
      · exact h
      · exact absurd ⟨rfl,by omega⟩ hsp
   obtain ⟨k1,k2⟩:=Mh p q n m hm0 (by rw [hR];exact hpr)
   rw [hQ,← hz,← hz2,hx] at k1
   rw [hR,← hz,← hz2,hy] at k2
   have hM1:=Lib.hid (fun W v (h:Un W v Q)=>adJ W (!(p==q)) v (limbs Q) h (by omega) Q (aG _) x k1)
   have hM2:=Lib.hid (fun W v (h:Un W v R)=>adJ W false v (limbs R) h (by omega) R (aG _) y k2)
   have hcase:p=false∨(p=true∧LR=0):=by
    rcases hpr with h | h
    · exact .inl h
    · cases p
      · exact .inl rfl
      · exact .inr ⟨rfl,by omega⟩
   clear hl hl2 hza hzn xA Fz hz hz2 hL hK ha hb hu hv hN hx hy hQ hR h0 hm0 hcs hLR k1 k2 hRm hsp hpr
   unfold Dv at hD
   rcases hcase with rfl | ⟨rfl,rfl⟩
   case' inl=>rw [show (!(false==q))=q by cases q<;>rfl] at hM1
   case' inr=>rw [show (!(true==q)) = !q by cases q<;>rfl] at hM1
   all_goals (
    go_enter Tryz.func61,Tryz.ntmps61
    go_upto_region 5 with (first
     | (go_at_call 36;refine hD.out.mono ?_;rintro e w5 ⟨⟨vq,vr,rfl,hvq,hvr⟩,zS⟩;obtain ⟨A2,c2,rfl,-⟩:=Un.sh hvq;obtain ⟨A3,c3,rfl,-⟩:=Un.sh hvr;rw [HLR.out] at hvr ⊢;obtain ⟨p0,p1,p2,p3,p4⟩:=Dh.ext zS;obtain ⟨q0,q1,q2,q3,q4⟩:=qj.ext zS))
    go_wp2_with (fail)
    refine (hM1.out _ _ hvq).mono ?_
    rintro e w6 ⟨u6,rfl,hz6,AL⟩
    obtain ⟨b6,A6,L6,c6,rfl⟩:=hz6.sh
    go_wp2_with (fail)
    refine (hM2.out _ _ (Un.below hvr AL)).mono ?_
    rintro e w7 ⟨u7,rfl,hz7,hE7⟩
    obtain ⟨b7,A7,L7,c7,rfl⟩:=hz7.sh
    have hI7:=((hI0.ext zS).ext AL).ext hE7
    have hJ7:=((hJ0.ext zS).ext AL).ext hE7
    obtain ⟨i0,i1,i2,i3,i4⟩:=id hI7
    obtain ⟨j0,j1,j2,j3,j4⟩:=id hJ7
    have HI7:=Lib.hid hI7
    have HJ7:=Lib.hid hJ7
    have hZ6:=hz6.below hE7
    have hEE:=((hE0.below zS).below AL).below hE7
    clear hI7 hJ7
    go_wp2
    (try simp only [Exit.inBlock,Exit.then])
    refine bodyPost_ret (v:=.tuple #[.agg #[.bool b6,.slice A6 L6 c6],.agg #[.bool b7,.slice A7 L7 c7],.int .i64 0]) (show (results _ _).run _ _=_ from ?_) rfl ⟨⟨_,_,rfl,(hZ6.jS HI7.out (dF _ _ _) _ _).jS (HJ7.out.other (by omega) _ _) (dF _ _ _) _ _,(hz7.jS HI7.out (dF _ _ _) _ _).jS (HJ7.out.other (by omega) _ _) (dF _ _ _) _ _⟩,(hEE.jS (by omega) _ _).jS (by omega) _ _⟩
    simp only [results]
    go_simp)
end Go.Proofs.YtnilonnkcbkdmaaGreatDoor
namespace Go.Proofs.YtnilonnkcbkdmaaGreatDoor
open Go.RowKit
set_option linter.unusedVariables false
set_option linter.unusedSimpArgs false
set_option maxHeartbeats 400000
namespace Ez
theorem aeK (u:Array Value) (X:World):(callFunc 16 u).run Tryz.prog X = .ok (.enter 16 u) X:=Pl.enters Tryz.func16 (by kernel_rfl) rfl u X
theorem Cv (u:Array Value) (X:World):(callFunc 33 u).run Tryz.prog X = .ok (.enter 33 u) X:=Pl.enters Tryz.func33 (by kernel_rfl) rfl u X
theorem jH (u:Array Value) (X:World):(callFunc 36 u).run Tryz.prog X = .ok (.enter 36 u) X:=Pl.enters Tryz.func36 (by kernel_rfl) rfl u X
theorem Ue (u:Array Value) (X:World):(callFunc 61 u).run Tryz.prog X = .ok (.enter 61 u) X:=Pl.enters Tryz.func61 (by kernel_rfl) rfl u X
end Ez
open Ez
set_option maxRecDepth 100000 in
set_option maxHeartbeats 4000000 in
theorem Uf (w:World) (jm tY:Value) (a m:Nat) (bn:Un w jm a) (qb:Un w tY m) (hla:Sn a 90) (hlm:Sn m 90) (hm0:m=0) :
  Calls Tryz.prog 25 #[jm,tY] w fun e w'=>e = .returned (.tuple #[.slice none 0 0,.int .i64 4])∧Ext w w':=by
 refine Pl.aV (n:=38) (vs:=[jm,tY]) Tryz.func25 rfl (by kernel_rfl) (by simp) ?_
 refine Pl.az ?_
 refine Pl.ay (by kernel_rfl) ?_
 refine Pl.aj trivial rfl rfl rfl rfl rfl ?_
 refine Pl.aj trivial rfl rfl rfl rfl rfl ?_
 refine Pl.ak ?_
 refine Pl.az ?_
 refine Pl.ay (by kernel_rfl) ?_
 refine Pl.ah trivial rfl rfl rfl rfl rfl ?_
 refine Pl.ah trivial rfl rfl rfl rfl rfl ?_
 refine Pl.aA rfl rfl rfl rfl rfl aeK ?_
 refine Calls.mono (wB _ _ _ a m bn qb hla hlm) ?_
 rintro e w1 ⟨Yu,uR,kH,rfl,M5,pR,kZ,hB1⟩
 refine ⟨_,rfl,trivial,?_⟩
 have Pk:Sn (Nat.gcd a m) 90:=iD hla hlm
 have qJ:Sz (cf (quo a m) 1 0).1 90:=Gq hlm
 have lK:Sz (cf (quo a m) 0 1).1 90:=uB hla
 refine Pl.ah trivial rfl rfl rfl rfl rfl ?_
 refine Pl.aB trivial rfl rfl rfl rfl rfl rfl ?_
 refine Pl.aB trivial rfl rfl rfl rfl rfl rfl ?_
 refine Pl.aB trivial rfl rfl rfl rfl rfl rfl ?_
 refine bI rfl rfl rfl rfl (fun _ _=>trivial) ?_
 intro N4 w2 hB2 Bf Tf
 refine bI rfl rfl rfl rfl (fun _ _=>trivial) ?_
 intro N5 w3 hB3 H6 i_5
 refine Pl.aj trivial rfl rfl rfl rfl rfl ?_
 obtain ⟨Ed,Bi,Ee,Bj,rfl⟩:=Zn.sh pR
 have Ug:=Ib.ext Tf hB3
 refine iP rfl rfl rfl rfl rfl rfl Ug (fun _ _=>trivial) ?_
 intro w4 abm alS abn I_4
 have hB4:=abm _ (Ext.below hB2 hB3) (Nat.le_trans (Below.size (Ext.refl w1)) Bf)
 have Uh:=abn _ _ _ (Nat.ne_of_gt (Nat.lt_of_lt_of_le (Ib.ext Tf (Ext.refl w2)).1 H6)) i_5
 obtain ⟨arR,MQ,arS,Gt,rfl⟩:=Zn.sh kZ
 refine iP rfl rfl rfl rfl rfl rfl Uh (fun _ _=>trivial) ?_
 intro w5 MR abo Pd I_5
 have bH:=MR _ hB4 (Nat.le_trans (Below.size hB2) H6)
 have MS:=Pd _ _ _ (Nat.ne_of_lt (Nat.lt_of_lt_of_le (Ib.ext Tf (Ext.refl w2)).1 H6)) I_4
 refine Pl.ak ?_
 refine Pl.az ?_
 refine Pl.az ?_
 refine Pl.ay (by kernel_rfl) ?_
 refine Pl.ah trivial rfl rfl rfl rfl rfl ?_
 obtain ⟨A_m,c_m,rfl,-⟩:=Un.sh qb
 refine bG trivial rfl rfl rfl rfl rfl ?_
 refine Pl.aI (v:=(.bool true)) trivial rfl rfl rfl rfl rfl rfl (fun X=>fV (dN.trans (decide_eq_true hm0)) X) ?_
 refine Pl.ah trivial rfl rfl rfl rfl rfl ?_
 refine Pl.ed rfl rfl rfl ?_
 refine Pl.ed rfl rfl rfl ?_
 refine Pl.ed rfl rfl rfl ?_
 refine Pl.ed rfl rfl rfl ?_
 refine Pl.aO trivial rfl rfl rfl rfl rfl rfl ?_
 refine Pl.ak ?_
 refine Pl.dh rfl ?_
 refine Pl.az ?_
 refine Pl.ay (by kernel_rfl) ?_
 refine Pl.aj trivial rfl rfl rfl rfl rfl ?_
 refine Pl.aj trivial rfl rfl rfl rfl rfl ?_
 refine Pl.ak ?_
 refine Pl.iV rfl rfl rfl ?_
 exact ⟨rfl,(Ext.below hB1 bH)⟩
set_option maxRecDepth 100000 in
set_option maxHeartbeats 4000000 in
theorem Jc (w:World) (jm tY:Value) (a m:Nat) (bn:Un w jm a) (qb:Un w tY m) (hla:Sn a 90) (hlm:Sn m 90) (hm0:m≠0) :
  Calls Tryz.prog 25 #[jm,tY] w fun e w'=>(Nat.gcd a m≠1∧e = .returned (.tuple #[.slice none 0 0,.int .i64 4])∨Nat.gcd a m=1∧∃ z,e = .returned (.tuple #[z,.int .i64 0])∧Un w' z ((cf (quo a m) 1 0).1%(m:Int)).natAbs)∧Ext w w':=by
 refine Pl.aV (n:=38) (vs:=[jm,tY]) Tryz.func25 rfl (by kernel_rfl) (by simp) ?_
 refine Pl.az ?_
 refine Pl.ay (by kernel_rfl) ?_
 refine Pl.aj trivial rfl rfl rfl rfl rfl ?_
 refine Pl.aj trivial rfl rfl rfl rfl rfl ?_
 refine Pl.ak ?_
 refine Pl.az ?_
 refine Pl.ay (by kernel_rfl) ?_
 refine Pl.ah trivial rfl rfl rfl rfl rfl ?_
 refine Pl.ah trivial rfl rfl rfl rfl rfl ?_
 refine Pl.aA rfl rfl rfl rfl rfl aeK ?_
 refine Calls.mono (wB _ _ _ a m bn qb hla hlm) ?_
 rintro e w1 ⟨Yu,uR,kH,rfl,M5,pR,kZ,hB1⟩
 refine ⟨_,rfl,trivial,?_⟩
 have Pk:Sn (Nat.gcd a m) 90:=iD hla hlm
 have qJ:Sz (cf (quo a m) 1 0).1 90:=Gq hlm
 have lK:Sz (cf (quo a m) 0 1).1 90:=uB hla
 refine Pl.ah trivial rfl rfl rfl rfl rfl ?_
 refine Pl.aB trivial rfl rfl rfl rfl rfl rfl ?_
 refine Pl.aB trivial rfl rfl rfl rfl rfl rfl ?_
 refine Pl.aB trivial rfl rfl rfl rfl rfl rfl ?_
 refine bI rfl rfl rfl rfl (fun _ _=>trivial) ?_
 intro N4 w2 hB2 Bf Tf
 refine bI rfl rfl rfl rfl (fun _ _=>trivial) ?_
 intro N5 w3 hB3 H6 i_5
 refine Pl.aj trivial rfl rfl rfl rfl rfl ?_
 obtain ⟨Ed,Bi,Ee,Bj,rfl⟩:=Zn.sh pR
 have Ug:=Ib.ext Tf hB3
 refine iP rfl rfl rfl rfl rfl rfl Ug (fun _ _=>trivial) ?_
 intro w4 abm alS abn I_4
 have hB4:=abm _ (Ext.below hB2 hB3) (Nat.le_trans (Below.size (Ext.refl w1)) Bf)
 have Uh:=abn _ _ _ (Nat.ne_of_gt (Nat.lt_of_lt_of_le (Ib.ext Tf (Ext.refl w2)).1 H6)) i_5
 obtain ⟨arR,MQ,arS,Gt,rfl⟩:=Zn.sh kZ
 refine iP rfl rfl rfl rfl rfl rfl Uh (fun _ _=>trivial) ?_
 intro w5 MR abo Pd I_5
 have bH:=MR _ hB4 (Nat.le_trans (Below.size hB2) H6)
 have MS:=Pd _ _ _ (Nat.ne_of_lt (Nat.lt_of_lt_of_le (Ib.ext Tf (Ext.refl w2)).1 H6)) I_4
 refine Pl.ak ?_
 refine Pl.az ?_
 refine Pl.az ?_
 by_cases hg:Nat.gcd a m=1
 · refine Pl.ay (by kernel_rfl) ?_
   refine Pl.ah trivial rfl rfl rfl rfl rfl ?_
   obtain ⟨A_m,c_m,rfl,-⟩:=Un.sh qb
   refine bG trivial rfl rfl rfl rfl rfl ?_
   refine Pl.aI (v:=(.bool false)) trivial rfl rfl rfl rfl rfl rfl (fun X=>fV (dN.trans (decide_eq_false hm0)) X) ?_
   refine Pl.ah trivial rfl rfl rfl rfl rfl ?_
   refine Pl.ah trivial rfl rfl rfl rfl rfl ?_
   refine cO (n:=1) (by decide) rfl rfl rfl rfl rfl (fun _ _=>trivial) ?_
   intro auH w6 aZ Qx
   have aen:=U.one Qx
   have NK:=Un.below M5 (Ext.below bH aZ)
   refine Pl.aA rfl rfl rfl rfl rfl gT ?_
   refine Calls.mono (eZ _ _ _ (Nat.gcd a m) 1 NK aen true (decide_eq_true hg)) ?_
   rintro e w7 ⟨rfl,bW⟩
   refine ⟨_,rfl,trivial,?_⟩
   refine Pl.nY (v:=(.bool false)) trivial rfl rfl rfl rfl rfl (fun X=>rfl) ?_
   refine Pl.aO trivial rfl rfl rfl rfl rfl rfl ?_
   refine Pl.ak ?_
   refine Pl.bD rfl ?_
   refine Pl.bN ?_
   refine Pl.az ?_
   refine Pl.nK (S:=fun X=>Ext w7 X) fo (Ext.drew (Ext.refl _)) ?_
   generalize w7.drew=w8
   intro cB
   have oG:=cB
   refine Pl.lm 3 1023 (fun l' w'=>∃ (KR:Nat) (zw:Nat) (aeL:Value) (aeM:Value),l'=[(4,.slice none 0 0),(9,.pointer (some ⟨KR,0,none⟩)),(10,.pointer (some ⟨zw,0,none⟩)),(33,aeL),(34,aeM),(35,(.int .i64 0))]∧Ext w7 w'∧w7.heap.size≤KR∧Ib w' KR false (.slice none 0 0)∧w7.heap.size≤zw∧Ib w' zw false (.slice none 0 0)∧Zn w' aeL ((cf (quo a m) 1 0).1/((m:Nat):Int))∧Zn w' aeM ((cf (quo a m) 1 0).1%((m:Nat):Int))∧KR≠zw) ?_ ?_
   rotate_left
   · intro l5
     refine Pl.lm 5 255 (fun l' w'=>∃ (aeL:Value) (aeM:Value),l'=[(4,.slice none 0 0),(33,aeL),(34,aeM),(35,(.int .i64 0))]∧Ext w7 w'∧Zn w' aeL ((cf (quo a m) 1 0).1/((m:Nat):Int))∧Zn w' aeM ((cf (quo a m) 1 0).1%((m:Nat):Int))) ?_ ?_
     · rintro _ aGK ⟨zh,zi,rfl,Jd,LX,LY⟩
       have WN:=Jd
       have dZ:Sz ((m:Nat):Int) 90:=Sn.sz hlm
       have dZ:Sz ((m:Nat):Int) 90:=Sn.sz hlm
       have akN:Sz ((cf (quo a m) 1 0).1/((m:Nat):Int)) 90:=Sz.div qJ
       have auM:Sz ((cf (quo a m) 1 0).1%((m:Nat):Int)) 90:=Sz.mod dZ (by omega)
       refine Pl.dY [8,9] 4 (by kernel_rfl) (by kernel_rfl) (by kernel_rfl) (Pl.aJ ?_ (Pl.aJ ?_ Pl.aX))
       · refine bI rfl rfl rfl rfl (fun _ k=>Ext.below WN k) ?_
         intro aeN asf oK Ui QB
         have zT:=Ext.below WN oK
         refine Pl.ak ?_
         refine Pl.aS [(false,9,511)] 1023 3 Pl.aD (by kernel_rfl) (by kernel_rfl) (by kernel_rfl) ?_
         refine bI rfl rfl rfl rfl (fun _ k=>Ext.below zT k) ?_
         intro aeO amc l6 Je aeP
         have GN:=Ext.below zT l6
         refine Pl.ak ?_
         have Bt:=Ib.ext QB l6
         have sS:=Zn.below LX (Ext.below oK l6)
         have sU:=Zn.below LY (Ext.below oK l6)
         exact Pl.bK [(4,.slice none 0 0),(9,.pointer (some ⟨aeN,0,none⟩)),(10,.pointer (some ⟨aeO,0,none⟩)),(33,zh),(34,zi),(35,(.int .i64 0))] (Pl.aa rfl (Pl.aa rfl (Pl.aa rfl (Pl.aa rfl (Pl.aa rfl (Pl.aa rfl Pl.aK)))))) (l5 _ _ ⟨aeN,aeO,zh,zi,rfl,(Ext.below Jd (Ext.below oK l6)),(Nat.le_trans (Below.size Jd) Ui),Bt,(Nat.le_trans (Below.size (Ext.below Jd oK)) Je),aeP,sS,sU,(Nat.ne_of_lt (Nat.lt_of_lt_of_le (QB).1 Je))⟩)
       · refine bI rfl rfl rfl rfl (fun _ k=>Ext.below WN k) ?_
         intro aeN asf oK Ui QB
         have zT:=Ext.below WN oK
         refine Pl.ak ?_
         refine Pl.aS [(false,8,767)] 1023 3 Pl.aD (by kernel_rfl) (by kernel_rfl) (by kernel_rfl) ?_
         refine bI rfl rfl rfl rfl (fun _ k=>Ext.below zT k) ?_
         intro aeO amc l6 Je aeP
         have GN:=Ext.below zT l6
         refine Pl.ak ?_
         have Bt:=Ib.ext QB l6
         have sS:=Zn.below LX (Ext.below oK l6)
         have sU:=Zn.below LY (Ext.below oK l6)
         exact Pl.bK [(4,.slice none 0 0),(9,.pointer (some ⟨aeO,0,none⟩)),(10,.pointer (some ⟨aeN,0,none⟩)),(33,zh),(34,zi),(35,(.int .i64 0))] (Pl.aa rfl (Pl.aa rfl (Pl.aa rfl (Pl.aa rfl (Pl.aa rfl (Pl.aa rfl Pl.aK)))))) (l5 _ _ ⟨aeO,aeN,zh,zi,rfl,(Ext.below Jd (Ext.below oK l6)),(Nat.le_trans (Below.size (Ext.below Jd oK)) Je),aeP,(Nat.le_trans (Below.size Jd) Ui),Bt,sS,sU,(Nat.ne_of_gt (Nat.lt_of_lt_of_le (QB).1 Je))⟩)
     intro abV
     refine Pl.lm 9 263 (fun l' w'=>∃ (KR:Nat) (QC:Value),l'=[(4,.slice none 0 0),(9,.pointer (some ⟨KR,0,none⟩)),(29,.agg #[.bool Ed,.slice Bi Ee Bj]),(31,QC)]∧Ext w7 w'∧w7.heap.size≤KR∧Ib w' KR false (.slice none 0 0)∧Zn w' QC ((m:Nat):Int)) ?_ ?_
     · rintro _ aGL ⟨NL,aqz,rfl,Jf,QD,FU,LZ⟩
       have aeQ:=Jf
       have dZ:Sz ((m:Nat):Int) 90:=Sn.sz hlm
       have dZ:Sz ((m:Nat):Int) 90:=Sn.sz hlm
       refine Pl.dY [3,9] 8 (by kernel_rfl) (by kernel_rfl) (by kernel_rfl) (Pl.aJ ?_ (Pl.aJ ?_ Pl.aX))
       · have ZG:=Zn.below pR (Ext.below bH (Ext.below aZ (Ext.below bW Jf)))
         refine Pl.aA rfl rfl rfl rfl rfl Ue ?_
         refine Calls.mono (zk _ _ _ ((cf (quo a m) 1 0).1) ((m:Nat):Int) ZG LZ (Sz.le qJ (by decide)) (Sz.le dZ (by decide)) (by omega) _ _ rfl rfl) ?_
         rintro e asj ⟨⟨aeR,aeS,rfl,aoC,aoD⟩,oL⟩
         have uS:=Ext.below aeQ oL
         refine ⟨_,rfl,uS,?_⟩
         have aAm:Sz ((cf (quo a m) 1 0).1/((m:Nat):Int)) 90:=Sz.div qJ
         have aAn:Sz ((cf (quo a m) 1 0).1%((m:Nat):Int)) 90:=Sz.mod dZ (by omega)
         refine Pl.ak ?_
         refine Pl.aS [(true,4,271),(true,5,287),(true,6,319),(true,7,383),(false,9,511)] 1023 3 Pl.aD (by kernel_rfl) (by kernel_rfl) (by kernel_rfl) ?_
         refine Pl.ah uS rfl rfl rfl rfl rfl ?_
         refine Pl.aB uS rfl rfl rfl rfl rfl rfl ?_
         refine Pl.aB uS rfl rfl rfl rfl rfl rfl ?_
         refine Pl.aB uS rfl rfl rfl rfl rfl rfl ?_
         refine bI rfl rfl rfl rfl (fun _ k=>Ext.below uS k) ?_
         intro abY amd mO GU abZ
         have qV:=Ext.below uS mO
         refine Pl.ak ?_
         have wC:=Ib.ext FU (Ext.below oL mO)
         have QE:=Zn.below aoC mO
         have QF:=Zn.below aoD mO
         exact Pl.bK [(4,.slice none 0 0),(9,.pointer (some ⟨NL,0,none⟩)),(10,.pointer (some ⟨abY,0,none⟩)),(33,aeR),(34,aeS),(35,(.int .i64 0))] (Pl.aa rfl (Pl.aa rfl (Pl.aa rfl (Pl.aa rfl (Pl.aa rfl (Pl.aa rfl Pl.aK)))))) (l5 _ _ ⟨NL,abY,aeR,aeS,rfl,(Ext.below Jf (Ext.below oL mO)),QD,wC,(Nat.le_trans (Below.size (Ext.below Jf oL)) GU),abZ,QE,QF,(Nat.ne_of_lt (Nat.lt_of_lt_of_le (Ib.ext FU oL).1 GU))⟩)
       · refine bI rfl rfl rfl rfl (fun _ k=>Ext.below aeQ k) ?_
         intro auN asj oL aeT auO
         have uS:=Ext.below aeQ oL
         refine Pl.ak ?_
         refine Pl.aS [(false,3,775),(true,4,783),(true,5,799),(true,6,831),(true,7,895)] 1023 3 Pl.aD (by kernel_rfl) (by kernel_rfl) (by kernel_rfl) ?_
         have ZH:=Zn.below pR (Ext.below bH (Ext.below aZ (Ext.below bW (Ext.below Jf oL))))
         have Jg:=Zn.below LZ oL
         refine Pl.aA rfl rfl rfl rfl rfl Ue ?_
         refine Calls.mono (zk _ _ _ ((cf (quo a m) 1 0).1) ((m:Nat):Int) ZH Jg (Sz.le qJ (by decide)) (Sz.le dZ (by decide)) (by omega) _ _ rfl rfl) ?_
         rintro e amd ⟨⟨aeU,GR,rfl,aoE,SE⟩,mO⟩
         have qV:=Ext.below uS mO
         refine ⟨_,rfl,qV,?_⟩
         have aAo:Sz ((cf (quo a m) 1 0).1/((m:Nat):Int)) 90:=Sz.div qJ
         have amf:Sz ((cf (quo a m) 1 0).1%((m:Nat):Int)) 90:=Sz.mod dZ (by omega)
         refine Pl.ah qV rfl rfl rfl rfl rfl ?_
         refine Pl.aB qV rfl rfl rfl rfl rfl rfl ?_
         refine Pl.aB qV rfl rfl rfl rfl rfl rfl ?_
         refine Pl.aB qV rfl rfl rfl rfl rfl rfl ?_
         refine Pl.ak ?_
         have wC:=Ib.ext FU (Ext.below oL mO)
         have Uj:=Ib.ext auO mO
         exact Pl.bK [(4,.slice none 0 0),(9,.pointer (some ⟨NL,0,none⟩)),(10,.pointer (some ⟨auN,0,none⟩)),(33,aeU),(34,GR),(35,(.int .i64 0))] (Pl.aa rfl (Pl.aa rfl (Pl.aa rfl (Pl.aa rfl (Pl.aa rfl (Pl.aa rfl Pl.aK)))))) (l5 _ _ ⟨NL,auN,aeU,GR,rfl,(Ext.below Jf (Ext.below oL mO)),QD,wC,(Nat.le_trans (Below.size Jf) aeT),Uj,aoE,SE,(Nat.ne_of_lt (Nat.lt_of_lt_of_le (FU).1 aeT))⟩)
     intro Pq
     refine Pl.lm 9 519 (fun l' w'=>∃ (zw:Nat) (QC:Value),l'=[(4,.slice none 0 0),(10,.pointer (some ⟨zw,0,none⟩)),(29,.agg #[.bool Ed,.slice Bi Ee Bj]),(31,QC)]∧Ext w7 w'∧w7.heap.size≤zw∧Ib w' zw false (.slice none 0 0)∧Zn w' QC ((m:Nat):Int)) ?_ ?_
     · rintro _ aGM ⟨FV,aqA,rfl,Jh,L8,CQ,L9⟩
       have aeV:=Jh
       have dZ:Sz ((m:Nat):Int) 90:=Sn.sz hlm
       have dZ:Sz ((m:Nat):Int) 90:=Sn.sz hlm
       refine Pl.dY [3,8] 8 (by kernel_rfl) (by kernel_rfl) (by kernel_rfl) (Pl.aJ ?_ (Pl.aJ ?_ Pl.aX))
       · have ZI:=Zn.below pR (Ext.below bH (Ext.below aZ (Ext.below bW Jh)))
         refine Pl.aA rfl rfl rfl rfl rfl Ue ?_
         refine Calls.mono (zk _ _ _ ((cf (quo a m) 1 0).1) ((m:Nat):Int) ZI L9 (Sz.le qJ (by decide)) (Sz.le dZ (by decide)) (by omega) _ _ rfl rfl) ?_
         rintro e aso ⟨⟨aeW,aeX,rfl,aoF,aoG⟩,oM⟩
         have uT:=Ext.below aeV oM
         refine ⟨_,rfl,uT,?_⟩
         have aAp:Sz ((cf (quo a m) 1 0).1/((m:Nat):Int)) 90:=Sz.div qJ
         have aAq:Sz ((cf (quo a m) 1 0).1%((m:Nat):Int)) 90:=Sz.mod dZ (by omega)
         refine Pl.ak ?_
         refine Pl.aS [(true,4,527),(true,5,543),(true,6,575),(true,7,639),(false,8,767)] 1023 3 Pl.aD (by kernel_rfl) (by kernel_rfl) (by kernel_rfl) ?_
         refine Pl.ah uT rfl rfl rfl rfl rfl ?_
         refine Pl.aB uT rfl rfl rfl rfl rfl rfl ?_
         refine Pl.aB uT rfl rfl rfl rfl rfl rfl ?_
         refine Pl.aB uT rfl rfl rfl rfl rfl rfl ?_
         refine bI rfl rfl rfl rfl (fun _ k=>Ext.below uT k) ?_
         intro ab4 ami mR GY ab5
         have qW:=Ext.below uT mR
         refine Pl.ak ?_
         have uK:=Ib.ext CQ (Ext.below oM mR)
         have QG:=Zn.below aoF mR
         have QH:=Zn.below aoG mR
         exact Pl.bK [(4,.slice none 0 0),(9,.pointer (some ⟨ab4,0,none⟩)),(10,.pointer (some ⟨FV,0,none⟩)),(33,aeW),(34,aeX),(35,(.int .i64 0))] (Pl.aa rfl (Pl.aa rfl (Pl.aa rfl (Pl.aa rfl (Pl.aa rfl (Pl.aa rfl Pl.aK)))))) (l5 _ _ ⟨ab4,FV,aeW,aeX,rfl,(Ext.below Jh (Ext.below oM mR)),(Nat.le_trans (Below.size (Ext.below Jh oM)) GY),ab5,L8,uK,QG,QH,(Nat.ne_of_gt (Nat.lt_of_lt_of_le (Ib.ext CQ oM).1 GY))⟩)
       · refine bI rfl rfl rfl rfl (fun _ k=>Ext.below aeV k) ?_
         intro auP aso oM aeY auQ
         have uT:=Ext.below aeV oM
         refine Pl.ak ?_
         refine Pl.aS [(false,3,775),(true,4,783),(true,5,799),(true,6,831),(true,7,895)] 1023 3 Pl.aD (by kernel_rfl) (by kernel_rfl) (by kernel_rfl) ?_
         have ZJ:=Zn.below pR (Ext.below bH (Ext.below aZ (Ext.below bW (Ext.below Jh oM))))
         have Ji:=Zn.below L9 oM
         refine Pl.aA rfl rfl rfl rfl rfl Ue ?_
         refine Calls.mono (zk _ _ _ ((cf (quo a m) 1 0).1) ((m:Nat):Int) ZJ Ji (Sz.le qJ (by decide)) (Sz.le dZ (by decide)) (by omega) _ _ rfl rfl) ?_
         rintro e ami ⟨⟨aeZ,GX,rfl,aoH,SG⟩,mR⟩
         have qW:=Ext.below uT mR
         refine ⟨_,rfl,qW,?_⟩
         have aAr:Sz ((cf (quo a m) 1 0).1/((m:Nat):Int)) 90:=Sz.div qJ
         have amk:Sz ((cf (quo a m) 1 0).1%((m:Nat):Int)) 90:=Sz.mod dZ (by omega)
         refine Pl.ah qW rfl rfl rfl rfl rfl ?_
         refine Pl.aB qW rfl rfl rfl rfl rfl rfl ?_
         refine Pl.aB qW rfl rfl rfl rfl rfl rfl ?_
         refine Pl.aB qW rfl rfl rfl rfl rfl rfl ?_
         refine Pl.ak ?_
         have Uk:=Ib.ext auQ mR
         have uK:=Ib.ext CQ (Ext.below oM mR)
         exact Pl.bK [(4,.slice none 0 0),(9,.pointer (some ⟨auP,0,none⟩)),(10,.pointer (some ⟨FV,0,none⟩)),(33,aeZ),(34,GX),(35,(.int .i64 0))] (Pl.aa rfl (Pl.aa rfl (Pl.aa rfl (Pl.aa rfl (Pl.aa rfl (Pl.aa rfl Pl.aK)))))) (l5 _ _ ⟨auP,FV,aeZ,GX,rfl,(Ext.below Jh (Ext.below oM mR)),(Nat.le_trans (Below.size Jh) aeY),Uk,L8,uK,aoH,SG,(Nat.ne_of_gt (Nat.lt_of_lt_of_le (CQ).1 aeY))⟩)
     intro Px
     refine Pl.lm 10 7 (fun l' w'=>∃ (QC:Value),l'=[(4,.slice none 0 0),(29,.agg #[.bool Ed,.slice Bi Ee Bj]),(31,QC)]∧Ext w7 w'∧Zn w' QC ((m:Nat):Int)) ?_ ?_
     · rintro _ ayG ⟨zm,rfl,oh,Ef⟩
       have xS:=oh
       have dZ:Sz ((m:Nat):Int) 90:=Sn.sz hlm
       refine Pl.dY [3,8,9] 9 (by kernel_rfl) (by kernel_rfl) (by kernel_rfl) (Pl.aJ ?_ (Pl.aJ ?_ (Pl.aJ ?_ Pl.aX)))
       · have ZK:=Zn.below pR (Ext.below bH (Ext.below aZ (Ext.below bW oh)))
         refine Pl.aA rfl rfl rfl rfl rfl Ue ?_
         refine Calls.mono (zk _ _ _ ((cf (quo a m) 1 0).1) ((m:Nat):Int) ZK Ef (Sz.le qJ (by decide)) (Sz.le dZ (by decide)) (by omega) _ _ rfl rfl) ?_
         rintro e Yi ⟨⟨ae0,akO,rfl,ae1,auR⟩,jo⟩
         have lZ:=Ext.below xS jo
         refine ⟨_,rfl,lZ,?_⟩
         have akN:Sz ((cf (quo a m) 1 0).1/((m:Nat):Int)) 90:=Sz.div qJ
         have auM:Sz ((cf (quo a m) 1 0).1%((m:Nat):Int)) 90:=Sz.mod dZ (by omega)
         refine Pl.ak ?_
         refine Pl.aS [(true,4,15),(true,5,31),(true,6,63),(true,7,127)] 255 5 Pl.aD (by kernel_rfl) (by kernel_rfl) (by kernel_rfl) ?_
         refine Pl.ah lZ rfl rfl rfl rfl rfl ?_
         refine Pl.aB lZ rfl rfl rfl rfl rfl rfl ?_
         refine Pl.aB lZ rfl rfl rfl rfl rfl rfl ?_
         refine Pl.aB lZ rfl rfl rfl rfl rfl rfl ?_
         refine Pl.ak ?_
         exact Pl.bK [(4,.slice none 0 0),(33,ae0),(34,akO),(35,(.int .i64 0))] (Pl.aa rfl (Pl.aa rfl (Pl.aa rfl (Pl.aa rfl Pl.aK)))) (abV _ _ ⟨ae0,akO,rfl,(Ext.below oh jo),ae1,auR⟩)
       · refine bI rfl rfl rfl rfl (fun _ k=>Ext.below xS k) ?_
         intro N59 Yi jo ae2 aoI
         have lZ:=Ext.below xS jo
         refine Pl.ak ?_
         have sV:=Zn.below Ef jo
         exact Pl.bK [(4,.slice none 0 0),(9,.pointer (some ⟨N59,0,none⟩)),(29,.agg #[.bool Ed,.slice Bi Ee Bj]),(31,zm)] (Pl.aa rfl (Pl.aa rfl (Pl.aa rfl (Pl.aa rfl Pl.aK)))) (Pq _ _ ⟨N59,zm,rfl,(Ext.below oh jo),(Nat.le_trans (Below.size oh) ae2),aoI,sV⟩)
       · refine bI rfl rfl rfl rfl (fun _ k=>Ext.below xS k) ?_
         intro N59 Yi jo ae2 aoI
         have lZ:=Ext.below xS jo
         refine Pl.ak ?_
         have sV:=Zn.below Ef jo
         exact Pl.bK [(4,.slice none 0 0),(10,.pointer (some ⟨N59,0,none⟩)),(29,.agg #[.bool Ed,.slice Bi Ee Bj]),(31,zm)] (Pl.aa rfl (Pl.aa rfl (Pl.aa rfl (Pl.aa rfl Pl.aK)))) (Px _ _ ⟨N59,zm,rfl,(Ext.below oh jo),(Nat.le_trans (Below.size oh) ae2),aoI,sV⟩)
     intro hK7
     refine Pl.lm 10 259 (fun l' w'=>∃ (KR:Nat),l'=[(4,.slice none 0 0),(9,.pointer (some ⟨KR,0,none⟩)),(29,.agg #[.bool Ed,.slice Bi Ee Bj]),(30,.slice A_m (limbs m).length c_m)]∧Ext w7 w'∧w7.heap.size≤KR∧Ib w' KR false (.slice none 0 0)) ?_ ?_
     · rintro _ ayK ⟨NM,rfl,zR,QI,NN⟩
       have KU:=zR
       refine Pl.dY [2,9] 9 (by kernel_rfl) (by kernel_rfl) (by kernel_rfl) (Pl.aJ ?_ (Pl.aJ ?_ Pl.aX))
       · have ae3:=Un.below qb (Ext.below hB1 (Ext.below bH (Ext.below aZ (Ext.below bW zR))))
         refine Pl.aA rfl rfl rfl rfl rfl Cv ?_
         refine Calls.mono (kD _ _ m ae3 (Sn.le hlm (by decide))) ?_
         rintro e abG ⟨ae4,rfl,aoJ,lQ⟩
         have BX:=Ext.below KU lQ
         refine ⟨_,rfl,BX,?_⟩
         have aAs:Sz ((m:Nat):Int) 90:=Sn.sz hlm
         refine Pl.ak ?_
         have NP:=Ib.ext NN lQ
         exact Pl.bK [(4,.slice none 0 0),(9,.pointer (some ⟨NM,0,none⟩)),(29,.agg #[.bool Ed,.slice Bi Ee Bj]),(31,ae4)] (Pl.aa rfl (Pl.aa rfl (Pl.aa rfl (Pl.aa rfl Pl.aK)))) (Pq _ _ ⟨NM,ae4,rfl,(Ext.below zR lQ),QI,NP,aoJ⟩)
       · refine bI rfl rfl rfl rfl (fun _ k=>Ext.below KU k) ?_
         intro auT abG lQ ae5 auU
         have BX:=Ext.below KU lQ
         refine Pl.ak ?_
         refine Pl.aS [(false,2,771),(false,3,775),(true,4,783),(true,5,799),(true,6,831),(true,7,895)] 1023 3 Pl.aD (by kernel_rfl) (by kernel_rfl) (by kernel_rfl) ?_
         have G6:=Un.below qb (Ext.below hB1 (Ext.below bH (Ext.below aZ (Ext.below bW (Ext.below zR lQ)))))
         refine Pl.aA rfl rfl rfl rfl rfl Cv ?_
         refine Calls.mono (kD _ _ m G6 (Sn.le hlm (by decide))) ?_
         rintro e alZ ⟨aAt,rfl,aoK,lS⟩
         have qU:=Ext.below BX lS
         refine ⟨_,rfl,qU,?_⟩
         have NQ:Sz ((m:Nat):Int) 90:=Sn.sz hlm
         have ZL:=Zn.below pR (Ext.below bH (Ext.below aZ (Ext.below bW (Ext.below zR (Ext.below lQ lS)))))
         refine Pl.aA rfl rfl rfl rfl rfl Ue ?_
         refine Calls.mono (zk _ _ _ ((cf (quo a m) 1 0).1) ((m:Nat):Int) ZL aoK (Sz.le qJ (by decide)) (Sz.le NQ (by decide)) (by omega) _ _ rfl rfl) ?_
         rintro e ahN ⟨⟨G7,SK,rfl,SI,SL⟩,wS⟩
         have tX:=Ext.below qU wS
         refine ⟨_,rfl,tX,?_⟩
         have ab9:Sz ((cf (quo a m) 1 0).1/((m:Nat):Int)) 90:=Sz.div qJ
         have DD:Sz ((cf (quo a m) 1 0).1%((m:Nat):Int)) 90:=Sz.mod NQ (by omega)
         refine Pl.ah tX rfl rfl rfl rfl rfl ?_
         refine Pl.aB tX rfl rfl rfl rfl rfl rfl ?_
         refine Pl.aB tX rfl rfl rfl rfl rfl rfl ?_
         refine Pl.aB tX rfl rfl rfl rfl rfl rfl ?_
         refine Pl.ak ?_
         have NS:=Ib.ext NN (Ext.below lQ (Ext.below lS wS))
         have Ul:=Ib.ext auU (Ext.below lS wS)
         exact Pl.bK [(4,.slice none 0 0),(9,.pointer (some ⟨NM,0,none⟩)),(10,.pointer (some ⟨auT,0,none⟩)),(33,G7),(34,SK),(35,(.int .i64 0))] (Pl.aa rfl (Pl.aa rfl (Pl.aa rfl (Pl.aa rfl (Pl.aa rfl (Pl.aa rfl Pl.aK)))))) (l5 _ _ ⟨NM,auT,G7,SK,rfl,(Ext.below zR (Ext.below lQ (Ext.below lS wS))),QI,NS,(Nat.le_trans (Below.size zR) ae5),Ul,SI,SL,(Nat.ne_of_lt (Nat.lt_of_lt_of_le (NN).1 ae5))⟩)
     intro acg
     refine Pl.lm 10 515 (fun l' w'=>∃ (zw:Nat),l'=[(4,.slice none 0 0),(10,.pointer (some ⟨zw,0,none⟩)),(29,.agg #[.bool Ed,.slice Bi Ee Bj]),(30,.slice A_m (limbs m).length c_m)]∧Ext w7 w'∧w7.heap.size≤zw∧Ib w' zw false (.slice none 0 0)) ?_ ?_
     · rintro _ aGN ⟨FW,rfl,Jj,Ma,Jk⟩
       have ae6:=Jj
       refine Pl.dY [2,8] 9 (by kernel_rfl) (by kernel_rfl) (by kernel_rfl) (Pl.aJ ?_ (Pl.aJ ?_ Pl.aX))
       · have ae7:=Un.below qb (Ext.below hB1 (Ext.below bH (Ext.below aZ (Ext.below bW Jj))))
         refine Pl.aA rfl rfl rfl rfl rfl Cv ?_
         refine Calls.mono (kD _ _ m ae7 (Sn.le hlm (by decide))) ?_
         rintro e asy ⟨ae8,rfl,aoL,qy⟩
         have G9:=Ext.below ae6 qy
         refine ⟨_,rfl,G9,?_⟩
         have aAu:Sz ((m:Nat):Int) 90:=Sn.sz hlm
         refine Pl.ak ?_
         have Ky:=Ib.ext Jk qy
         exact Pl.bK [(4,.slice none 0 0),(10,.pointer (some ⟨FW,0,none⟩)),(29,.agg #[.bool Ed,.slice Bi Ee Bj]),(31,ae8)] (Pl.aa rfl (Pl.aa rfl (Pl.aa rfl (Pl.aa rfl Pl.aK)))) (Px _ _ ⟨FW,ae8,rfl,(Ext.below Jj qy),Ma,Ky,aoL⟩)
       · refine bI rfl rfl rfl rfl (fun _ k=>Ext.below ae6 k) ?_
         intro auV asy qy ae9 auW
         have G9:=Ext.below ae6 qy
         refine Pl.ak ?_
         refine Pl.aS [(false,2,771),(false,3,775),(true,4,783),(true,5,799),(true,6,831),(true,7,895)] 1023 3 Pl.aD (by kernel_rfl) (by kernel_rfl) (by kernel_rfl) ?_
         have He:=Un.below qb (Ext.below hB1 (Ext.below bH (Ext.below aZ (Ext.below bW (Ext.below Jj qy)))))
         refine Pl.aA rfl rfl rfl rfl rfl Cv ?_
         refine Calls.mono (kD _ _ m He (Sn.le hlm (by decide))) ?_
         rintro e asz ⟨Tt,rfl,Tu,sD⟩
         have Ld:=Ext.below G9 sD
         refine ⟨_,rfl,Ld,?_⟩
         have ae':Sz ((m:Nat):Int) 90:=Sn.sz hlm
         have ZM:=Zn.below pR (Ext.below bH (Ext.below aZ (Ext.below bW (Ext.below Jj (Ext.below qy sD)))))
         refine Pl.aA rfl rfl rfl rfl rfl Ue ?_
         refine Calls.mono (zk _ _ _ ((cf (quo a m) 1 0).1) ((m:Nat):Int) ZM Tu (Sz.le qJ (by decide)) (Sz.le ae' (by decide)) (by omega) _ _ rfl rfl) ?_
         rintro e ay5 ⟨⟨Hf,SS,rfl,SQ,SV⟩,zW⟩
         have Ey:=Ext.below Ld zW
         refine ⟨_,rfl,Ey,?_⟩
         have amt:Sz ((cf (quo a m) 1 0).1/((m:Nat):Int)) 90:=Sz.div qJ
         have SX:Sz ((cf (quo a m) 1 0).1%((m:Nat):Int)) 90:=Sz.mod ae' (by omega)
         refine Pl.ah Ey rfl rfl rfl rfl rfl ?_
         refine Pl.aB Ey rfl rfl rfl rfl rfl rfl ?_
         refine Pl.aB Ey rfl rfl rfl rfl rfl rfl ?_
         refine Pl.aB Ey rfl rfl rfl rfl rfl rfl ?_
         refine Pl.ak ?_
         have Um:=Ib.ext auW (Ext.below sD zW)
         have Kz:=Ib.ext Jk (Ext.below qy (Ext.below sD zW))
         exact Pl.bK [(4,.slice none 0 0),(9,.pointer (some ⟨auV,0,none⟩)),(10,.pointer (some ⟨FW,0,none⟩)),(33,Hf),(34,SS),(35,(.int .i64 0))] (Pl.aa rfl (Pl.aa rfl (Pl.aa rfl (Pl.aa rfl (Pl.aa rfl (Pl.aa rfl Pl.aK)))))) (l5 _ _ ⟨auV,FW,Hf,SS,rfl,(Ext.below Jj (Ext.below qy (Ext.below sD zW))),(Nat.le_trans (Below.size Jj) ae9),Um,Ma,Kz,SQ,SV,(Nat.ne_of_gt (Nat.lt_of_lt_of_le (Jk).1 ae9))⟩)
     intro acm
     refine Pl.aS [(true,0,0),(true,1,1)] 3 11 Pl.aD (by kernel_rfl) (by kernel_rfl) (by kernel_rfl) ?_
     have aoM:=Ib.ext MS (Ext.below aZ bW)
     refine Pl.aR oG rfl rfl rfl rfl rfl (fun X hX=>Ib.load (Ib.ext aoM hX)) ?_
     refine Pl.ah oG rfl rfl rfl rfl rfl ?_
     refine Pl.ak ?_
     refine Pl.dY [2,8,9] 10 (by kernel_rfl) (by kernel_rfl) (by kernel_rfl) (Pl.aJ ?_ (Pl.aJ ?_ (Pl.aJ ?_ Pl.aX)))
     · have Eb:=Un.below qb (Ext.below hB1 (Ext.below bH (Ext.below aZ (Ext.below bW cB))))
       refine Pl.aA rfl rfl rfl rfl rfl Cv ?_
       refine Calls.mono (kD _ _ m Eb (Sn.le hlm (by decide))) ?_
       rintro e w9 ⟨rY,rfl,kI,eP⟩
       have wO:=Ext.below oG eP
       refine ⟨_,rfl,wO,?_⟩
       have dZ:Sz ((m:Nat):Int) 90:=Sn.sz hlm
       refine Pl.ak ?_
       exact Pl.bK [(4,.slice none 0 0),(29,.agg #[.bool Ed,.slice Bi Ee Bj]),(31,rY)] (Pl.aa rfl (Pl.aa rfl (Pl.aa rfl Pl.aK))) (hK7 _ _ ⟨rY,rfl,(Ext.below cB eP),kI⟩)
     · refine bI rfl rfl rfl rfl (fun _ k=>Ext.below oG k) ?_
       intro N9 w9 eP ac9 i_9
       have wO:=Ext.below oG eP
       refine Pl.ak ?_
       exact Pl.bK [(4,.slice none 0 0),(9,.pointer (some ⟨N9,0,none⟩)),(29,.agg #[.bool Ed,.slice Bi Ee Bj]),(30,.slice A_m (limbs m).length c_m)] (Pl.aa rfl (Pl.aa rfl (Pl.aa rfl (Pl.aa rfl Pl.aK)))) (acg _ _ ⟨N9,rfl,(Ext.below cB eP),(Nat.le_trans (Below.size cB) ac9),i_9⟩)
     · refine bI rfl rfl rfl rfl (fun _ k=>Ext.below oG k) ?_
       intro N9 w9 eP ac9 i_9
       have wO:=Ext.below oG eP
       refine Pl.ak ?_
       exact Pl.bK [(4,.slice none 0 0),(10,.pointer (some ⟨N9,0,none⟩)),(29,.agg #[.bool Ed,.slice Bi Ee Bj]),(30,.slice A_m (limbs m).length c_m)] (Pl.aa rfl (Pl.aa rfl (Pl.aa rfl (Pl.aa rfl Pl.aK)))) (acm _ _ ⟨N9,rfl,(Ext.below cB eP),(Nat.le_trans (Below.size cB) ac9),i_9⟩)
   rintro _ aGO ⟨aAv,axq,aqB,aqC,rfl,akP,Jl,aiS,Eg,afa,Mc,ZN,um⟩
   have akQ:=akP
   have NQ:Sz ((m:Nat):Int) 90:=Sn.sz hlm
   have ab9:Sz ((cf (quo a m) 1 0).1/((m:Nat):Int)) 90:=Sz.div qJ
   have DD:Sz ((cf (quo a m) 1 0).1%((m:Nat):Int)) 90:=Sz.mod NQ (by omega)
   refine Pl.aS [(false,10,1023),(false,11,2047),(true,12,4095)] 8191 0 Pl.aD (by kernel_rfl) (by kernel_rfl) (by kernel_rfl) ?_
   obtain ⟨aqD,aqE,aqF,aqG,rfl⟩:=Zn.sh Mc
   refine iP rfl rfl rfl rfl rfl rfl aiS (fun _ T=>T _ akQ (Nat.le_trans (Below.size (Ext.refl w7)) Jl)) ?_
   intro ay8 afb afc aoN auX
   have VB:=afb _ akP (Nat.le_trans (Below.size (Ext.refl w7)) Jl)
   have Pz:=afb _ akQ (Nat.le_trans (Below.size (Ext.refl w7)) Jl)
   have KA:=aoN _ _ _ (Ne.symm um) afa
   have Jm:=afc _ _ Mc
   have yD:=afc _ _ ZN
   obtain ⟨aqH,aqI,aqJ,aqK,rfl⟩:=Zn.sh yD
   refine iP rfl rfl rfl rfl rfl rfl KA (fun _ T=>T _ Pz (Nat.le_trans (Below.size (Ext.refl w7)) Eg)) ?_
   intro ay9 Hg Hl S9 acp
   have acr:=Hg _ VB (Nat.le_trans (Below.size (Ext.refl w7)) Eg)
   have VC:=Hg _ Pz (Nat.le_trans (Below.size (Ext.refl w7)) Eg)
   have afd:=Hl _ _ Jm
   have aoO:=S9 _ _ _ um auX
   have Jn:=Hl _ _ yD
   refine Pl.aj VC rfl rfl rfl rfl rfl ?_
   refine Pl.ak ?_
   refine Pl.G_V (by kernel_rfl) ?_
   refine Pl.az ?_
   refine Pl.ay (by kernel_rfl) ?_
   refine bg trivial rfl rfl rfl rfl rfl (M6 _) ?_
   refine Pl.aH trivial rfl rfl rfl rfl rfl (Ib.mag acp) ?_
   have Jo:=Zn.mag Jn
   refine Pl.aj trivial rfl rfl rfl rfl rfl ?_
   refine Pl.aj trivial rfl rfl rfl rfl rfl ?_
   refine Pl.ak ?_
   refine Pl.iV rfl rfl rfl ?_
   exact ⟨.inr ⟨hg,_,rfl,Jo⟩,(Ext.below hB1 (Ext.below bH (Ext.below aZ (Ext.below bW acr))))⟩
 · refine Pl.ay (by kernel_rfl) ?_
   refine Pl.ah trivial rfl rfl rfl rfl rfl ?_
   obtain ⟨A_m,c_m,rfl,-⟩:=Un.sh qb
   refine bG trivial rfl rfl rfl rfl rfl ?_
   refine Pl.aI (v:=(.bool false)) trivial rfl rfl rfl rfl rfl rfl (fun X=>fV (dN.trans (decide_eq_false hm0)) X) ?_
   refine Pl.ah trivial rfl rfl rfl rfl rfl ?_
   refine Pl.ah trivial rfl rfl rfl rfl rfl ?_
   refine cO (n:=1) (by decide) rfl rfl rfl rfl rfl (fun _ _=>trivial) ?_
   intro auH w6 aZ Qx
   have aen:=U.one Qx
   have NK:=Un.below M5 (Ext.below bH aZ)
   refine Pl.aA rfl rfl rfl rfl rfl gT ?_
   refine Calls.mono (eZ _ _ _ (Nat.gcd a m) 1 NK aen false (decide_eq_false hg)) ?_
   rintro e w7 ⟨rfl,bW⟩
   refine ⟨_,rfl,trivial,?_⟩
   refine Pl.nY (v:=(.bool true)) trivial rfl rfl rfl rfl rfl (fun X=>rfl) ?_
   refine Pl.aO trivial rfl rfl rfl rfl rfl rfl ?_
   refine Pl.ak ?_
   refine Pl.dh rfl ?_
   refine Pl.az ?_
   refine Pl.ay (by kernel_rfl) ?_
   refine Pl.aj trivial rfl rfl rfl rfl rfl ?_
   refine Pl.aj trivial rfl rfl rfl rfl rfl ?_
   refine Pl.ak ?_
   refine Pl.iV rfl rfl rfl ?_
   exact ⟨.inl ⟨hg,rfl⟩,(Ext.below hB1 (Ext.below bH (Ext.below aZ bW)))⟩
theorem Uo (w:World) (jm tY:Value) (a m:Nat) (bn:Un w jm a) (qb:Un w tY m) (hla:Sn a 90) (hlm:Sn m 90) (hm0:m≠0) (hg:Nat.gcd a m≠1) :
  Calls Tryz.prog 25 #[jm,tY] w fun e w'=>e = .returned (.tuple #[.slice none 0 0,.int .i64 4])∧Ext w w' :=
 (Jc w jm tY a m bn qb hla hlm hm0).mono fun e w' h=>h.1.elim (fun k=>⟨k.2,h.2⟩) fun k=>absurd k.1 hg
theorem Uq (w:World) (jm tY:Value) (a m:Nat) (bn:Un w jm a) (qb:Un w tY m) (hla:Sn a 90) (hlm:Sn m 90) (hm0:m≠0) (hg:Nat.gcd a m=1) :
  Calls Tryz.prog 25 #[jm,tY] w fun e w'=>∃ z,e = .returned (.tuple #[z,.int .i64 0])∧Un w' z ((cf (quo a m) 1 0).1%(m:Int)).natAbs∧Ext w w' :=
 (Jc w jm tY a m bn qb hla hlm hm0).mono fun e w' h=>h.1.elim (fun k=>absurd hg k.1) fun k=>k.2.elim fun z hz=>⟨z,hz.1,hz.2,h.2⟩
theorem afe {a m:Nat} (h:Nat.gcd a m=1):((cf (quo (a%m) m) 1 0).1%(m:Int)).natAbs=((cf (quo a m) 1 0).1%(m:Int)).natAbs:=by
 have h2:Nat.gcd (a%m) m=1:=by rw [← h,Nat.gcd_comm a m,Nat.gcd_rec m a]
 have e1:=bez a m
 have e2:=bez (a%m) m
 rw [h] at e1
 rw [h2] at e2
 generalize (cf (quo a m) 1 0).1=x at *
 generalize (cf (quo a m) 0 1).1=s at *
 generalize (cf (quo (a%m) m) 1 0).1=y at *
 generalize (cf (quo (a%m) m) 0 1).1=t at *
 congr 1
 have hd:(m:Int)∣y-x:=by
  have hdm:=Int.mul_ediv_add_emod (a:Int) (m:Int)
  have e3:((a%m:Nat):Int)=(a:Int)%(m:Int):=by omega
  rw [e3] at e2
  refine ⟨s*y-t*x+y*x*((a:Int)/(m:Int)),?_⟩
  have e4:(a:Int)%(m:Int)=(a:Int)-(m:Int)*((a:Int)/(m:Int)):=by omega
  rw [e4] at e2
  generalize (a:Int)/(m:Int)=q at *
  grind
 exact Int.emod_eq_emod_iff_emod_sub_eq_zero.2 (Int.emod_eq_zero_of_dvd hd)
end Go.Proofs.YtnilonnkcbkdmaaGreatDoor
namespace Go.Proofs.YtnilonnkcbkdmaaGreatDoor
open Go.RowKit
set_option linter.unusedVariables false
set_option linter.unusedSimpArgs false
set_option maxHeartbeats 400000
namespace EK
theorem qL (u:Array Value) (X:World):(callFunc 28 u).run Tryz.prog X = .ok (.enter 28 u) X:=Pl.enters Tryz.func28 (by kernel_rfl) rfl u X
theorem jH (u:Array Value) (X:World):(callFunc 36 u).run Tryz.prog X = .ok (.enter 36 u) X:=Pl.enters Tryz.func36 (by kernel_rfl) rfl u X
theorem aAw (u:Array Value) (X:World):(callFunc 66 u).run Tryz.prog X = .ok (.enter 66 u) X:=Pl.enters Tryz.func66 (by kernel_rfl) rfl u X
theorem auY (u:Array Value) (X:World):(callFunc 67 u).run Tryz.prog X = .ok (.enter 67 u) X:=Pl.enters Tryz.func67 (by kernel_rfl) rfl u X
end EK
open EK
theorem QJ {e j:Nat} (hj:0<j):e/2^(j-1)=2*(e/2^j)+fQ e ((j:Int)-1):=by
 have h1:((j:Int)-1)=((j-1:Nat):Int):=by omega
 rw [h1,mX]
 have h2:e/2^j=e/2^(j-1)/2:=by rw [Nat.div_div_eq_div_mul,← Nat.pow_succ];congr 2;omega
 rw [h2]
 omega
theorem aff {a e m o j:Nat} (ho:a^(e/2^j)%m=o) (hj:0<j) (hb:((fQ e ((j:Int)-1):Nat):Int)=1):a^(e/2^(j-1))%m=(o*o)%m*a%m:=by
 rw [QJ hj,show fQ e ((j:Int)-1)=1 from by omega,Nat.pow_succ,Nat.two_mul,Nat.pow_add,← ho]
 simp [Nat.mul_mod]
theorem afg {a e m o j:Nat} (ho:a^(e/2^j)%m=o) (hj:0<j) (hb:((fQ e ((j:Int)-1):Nat):Int)=0):a^(e/2^(j-1))%m=(o*o)%m:=by
 rw [QJ hj,show fQ e ((j:Int)-1)=0 from by omega,Nat.add_zero,Nat.two_mul,Nat.pow_add,← ho]
 simp [Nat.mul_mod]
set_option maxRecDepth 100000 in
set_option maxHeartbeats 4000000 in
theorem aiT (w:World) (va ve vm:Value) (a ee m:Nat) (ha:Un w va a) (he:Un w ve ee) (hm:Un w vm m) (hla:Sn a 90) (hle:Sn ee 100) (hlm:Sn m 100) (hm0:m=0) :
  Calls Tryz.prog 27 #[va,ve,vm] w fun e w'=>e = .returned (.tuple #[.slice none 0 0,.int .i64 3])∧Ext w w':=by
 have hbl:=Jp hle
 refine Pl.aV (n:=60) (vs:=[va,ve,vm]) Tryz.func27 rfl (by kernel_rfl) (by simp) ?_
 refine Pl.az ?_
 refine Pl.ay (by kernel_rfl) ?_
 refine Pl.aj trivial rfl rfl rfl rfl rfl ?_
 refine Pl.aj trivial rfl rfl rfl rfl rfl ?_
 refine Pl.ak ?_
 refine Pl.az ?_
 refine Pl.az ?_
 refine Pl.ay (by kernel_rfl) ?_
 refine Pl.ah trivial rfl rfl rfl rfl rfl ?_
 obtain ⟨A_,c_,rfl,-⟩:=Un.sh hm
 refine bG trivial rfl rfl rfl rfl rfl ?_
 refine Pl.aI (v:=(.bool true)) trivial rfl rfl rfl rfl rfl rfl (fun X=>fV (dN.trans (decide_eq_true hm0)) X) ?_
 refine Pl.ak ?_
 refine Pl.dh rfl ?_
 refine Pl.az ?_
 refine Pl.ay (by kernel_rfl) ?_
 refine Pl.aj trivial rfl rfl rfl rfl rfl ?_
 refine Pl.aj trivial rfl rfl rfl rfl rfl ?_
 refine Pl.ak ?_
 refine Pl.iV rfl rfl rfl ?_
 exact ⟨rfl,(Ext.refl w)⟩
set_option maxRecDepth 100000 in
set_option maxHeartbeats 4000000 in
theorem WO (w:World) (va ve vm:Value) (a ee m:Nat) (ha:Un w va a) (he:Un w ve ee) (hm:Un w vm m) (hla:Sn a 90) (hle:Sn ee 100) (hlm:Sn m 100) (hm0:m≠0) :
  Calls Tryz.prog 27 #[va,ve,vm] w fun e w'=>∃ u,e = .returned (.tuple #[u,.int .i64 0])∧Un w' u (a^ee%m)∧Ext w w':=by
 have hbl:=Jp hle
 refine Pl.aV (n:=60) (vs:=[va,ve,vm]) Tryz.func27 rfl (by kernel_rfl) (by simp) ?_
 refine Pl.az ?_
 refine Pl.ay (by kernel_rfl) ?_
 refine Pl.aj trivial rfl rfl rfl rfl rfl ?_
 refine Pl.aj trivial rfl rfl rfl rfl rfl ?_
 refine Pl.ak ?_
 refine Pl.az ?_
 refine Pl.az ?_
 refine Pl.ay (by kernel_rfl) ?_
 refine Pl.ah trivial rfl rfl rfl rfl rfl ?_
 obtain ⟨A_,c_,rfl,-⟩:=Un.sh hm
 refine bG trivial rfl rfl rfl rfl rfl ?_
 refine Pl.aI (v:=(.bool false)) trivial rfl rfl rfl rfl rfl rfl (fun X=>fV (dN.trans (decide_eq_false hm0)) X) ?_
 refine Pl.ak ?_
 refine Pl.bD rfl ?_
 refine Pl.bN ?_
 refine Pl.az ?_
 refine Pl.ay (by kernel_rfl) ?_
 refine cO (n:=1) (by decide) rfl rfl rfl rfl rfl (fun _ _=>trivial) ?_
 intro Ko w1 hB1 ac8
 have am9:=U.one ac8
 refine Pl.ah trivial rfl rfl rfl rfl rfl ?_
 have afh:=Un.below hm hB1
 refine Pl.aA rfl rfl rfl rfl rfl jH ?_
 refine Calls.mono (jU _ _ _ 1 m _ _ am9 afh (Sn.le (Sn.small (n:=1) (K:=1) (by decide)) (by decide)) (Sn.le hlm (by decide)) hm0 rfl rfl) ?_
 rintro e w2 ⟨⟨kH,uN,rfl,kZ,lg⟩,hB2⟩
 refine ⟨_,rfl,trivial,?_⟩
 have lK:Sn (1/m) 1:=Sn.div (Sn.small (n:=1) (K:=1) (by decide))
 have iU:Sn (1%m) 100:=Sn.mod hlm hm0
 refine Pl.ah trivial rfl rfl rfl rfl rfl ?_
 refine Pl.aB trivial rfl rfl rfl rfl rfl rfl ?_
 refine Pl.aB trivial rfl rfl rfl rfl rfl rfl ?_
 refine Pl.aB trivial rfl rfl rfl rfl rfl rfl ?_
 refine Pl.aj trivial rfl rfl rfl rfl rfl ?_
 refine Pl.aj trivial rfl rfl rfl rfl rfl ?_
 refine Pl.aj trivial rfl rfl rfl rfl rfl ?_
 refine Pl.ak ?_
 refine Pl.az ?_
 refine Pl.az ?_
 refine Pl.ay (by kernel_rfl) ?_
 refine Pl.ah trivial rfl rfl rfl rfl rfl ?_
 have afi:=Un.below he (Ext.below hB1 hB2)
 refine Pl.aA rfl rfl rfl rfl rfl aAw ?_
 refine Calls.mono (kC _ _ ee afi (Sn.le hle (by decide)) _ rfl) ?_
 rintro e w3 ⟨rfl,hB3⟩
 refine ⟨_,rfl,trivial,?_⟩
 refine Pl.aI (v:=(.int .i64 (((bS ee:Nat):Int)-1))) trivial rfl rfl rfl rfl rfl rfl (fun X=>j6 rfl (by omega) (by omega) X) ?_
 refine Pl.aj trivial rfl rfl rfl rfl rfl ?_
 refine Pl.ak ?_
 refine Pl.kS [(0,va),(1,ve),(2,.slice A_ (limbs m).length c_),(9,uN),(11,.int .i64 (((bS ee:Nat):Int)-1))] (Pl.aa rfl (Pl.aa rfl (Pl.aa rfl (Pl.aa rfl (Pl.aa rfl Pl.aK))))) ?_
 refine Pl.cK ?_
 have aiU:=Un.below lg hB3
 refine Pl.mU (fun k l' w'=>∃ (o:Nat) (u:Value),a^(ee/2^k)%m=o∧Sn o 100∧k≤bS ee∧Ext w3 w'∧Un w' u o∧l'=[(0,va),(1,ve),(2,.slice A_ (limbs m).length c_),(9,u),(11,.int .i64 ((k:Int)-1))]) (bS ee) ⟨1%m,uN,by rw [Nat.div_eq_of_lt (dI ee),Nat.pow_zero],iU.le (by decide),Nat.le_refl _,Ext.refl _,aiU,rfl⟩ ?_
 rintro j _ w4 ⟨o,u,ho,hos,hjb,hB4,QK,rfl⟩
 rcases Nat.eq_zero_or_pos j with hj0 | hj0
 · refine Pl.az ?_
   refine Pl.az ?_
   refine Pl.ay (by kernel_rfl) ?_
   refine Pl.ah trivial rfl rfl rfl rfl rfl ?_
   refine Pl.aI (v:=(.bool false)) trivial rfl rfl rfl rfl rfl rfl (fun X=>rV (decide_eq_false (by omega)) X) ?_
   refine Pl.ak ?_
   refine Pl.bD rfl ?_
   refine Pl.jE ?_
   refine Pl.az ?_
   refine Pl.ay (by kernel_rfl) ?_
   refine Pl.ah trivial rfl rfl rfl rfl rfl ?_
   refine Pl.aj trivial rfl rfl rfl rfl rfl ?_
   refine Pl.aj trivial rfl rfl rfl rfl rfl ?_
   refine Pl.ak ?_
   refine Pl.iV rfl rfl rfl ?_
   exact ⟨_,rfl,by rw [show a^ee%m=o from by rw [← ho,hj0,Nat.pow_zero,Nat.div_one]];exact QK,(Ext.below hB1 (Ext.below hB2 (Ext.below hB3 hB4)))⟩
 · have hb2:=aiJ ee ((j:Int)-1)
   have hbc:((fQ ee ((j:Int)-1):Nat):Int)=1∨((fQ ee ((j:Int)-1):Nat):Int)=0:=by omega
   rcases hbc with hbit | hbit
   · refine Pl.az ?_
     refine Pl.az ?_
     refine Pl.ay (by kernel_rfl) ?_
     refine Pl.ah trivial rfl rfl rfl rfl rfl ?_
     refine Pl.aI (v:=(.bool true)) trivial rfl rfl rfl rfl rfl rfl (fun X=>rV (decide_eq_true (by omega)) X) ?_
     refine Pl.ak ?_
     refine Pl.dh rfl ?_
     refine Pl.bN ?_
     refine Pl.az ?_
     refine Pl.cK ?_
     refine Pl.az ?_
     refine Pl.ay (by kernel_rfl) ?_
     refine Pl.ah trivial rfl rfl rfl rfl rfl ?_
     refine Pl.ah trivial rfl rfl rfl rfl rfl ?_
     refine Pl.aA rfl rfl rfl rfl rfl qL ?_
     refine Calls.mono (kP _ _ _ o o _ QK QK (Sn.le hos (by decide)) (Sn.le hos (by decide)) rfl) ?_
     rintro e w5 ⟨Nj,rfl,xu,bH⟩
     refine ⟨_,rfl,trivial,?_⟩
     have zB:Sn (o*o) 200:=Sn.mul hos hos (by decide)
     refine Pl.ah trivial rfl rfl rfl rfl rfl ?_
     have WQ:=Un.below afh (Ext.below hB2 (Ext.below hB3 (Ext.below hB4 bH)))
     refine Pl.aA rfl rfl rfl rfl rfl jH ?_
     refine Calls.mono (jU _ _ _ (o*o) m _ _ xu WQ (Sn.le zB (by decide)) (Sn.le hlm (by decide)) hm0 rfl rfl) ?_
     rintro e w6 ⟨⟨alU,rY,rfl,Kh,kI⟩,aZ⟩
     refine ⟨_,rfl,trivial,?_⟩
     have Fb:Sn ((o*o)/m) 200:=Sn.div zB
     have dZ:Sn ((o*o)%m) 100:=Sn.mod hlm hm0
     refine Pl.ah trivial rfl rfl rfl rfl rfl ?_
     refine Pl.aB trivial rfl rfl rfl rfl rfl rfl ?_
     refine Pl.aB trivial rfl rfl rfl rfl rfl rfl ?_
     refine Pl.aB trivial rfl rfl rfl rfl rfl rfl ?_
     refine Pl.aj trivial rfl rfl rfl rfl rfl ?_
     refine Pl.aj trivial rfl rfl rfl rfl rfl ?_
     refine Pl.aj trivial rfl rfl rfl rfl rfl ?_
     refine Pl.ak ?_
     refine Pl.az ?_
     refine Pl.ay (by kernel_rfl) ?_
     refine Pl.ah trivial rfl rfl rfl rfl rfl ?_
     refine Pl.aj trivial rfl rfl rfl rfl rfl ?_
     refine Pl.ak ?_
     refine Pl.az ?_
     refine Pl.ay (by kernel_rfl) ?_
     refine Pl.ah trivial rfl rfl rfl rfl rfl ?_
     refine Pl.ah trivial rfl rfl rfl rfl rfl ?_
     have afj:=Un.below afi (Ext.below hB3 (Ext.below hB4 (Ext.below bH aZ)))
     refine Pl.aA rfl rfl rfl rfl rfl auY ?_
     refine Calls.mono (l8 _ _ ee _ afj (by omega) (by omega) 1 hbit) ?_
     rintro e w7 ⟨rfl,bW⟩
     refine ⟨_,rfl,trivial,?_⟩
     refine Pl.aI (v:=(.bool true)) trivial rfl rfl rfl rfl rfl rfl (fun X=>by go_simp) ?_
     refine Pl.ak ?_
     refine Pl.dh rfl ?_
     refine Pl.az ?_
     refine Pl.ay (by kernel_rfl) ?_
     refine Pl.ah trivial rfl rfl rfl rfl rfl ?_
     refine Pl.ah trivial rfl rfl rfl rfl rfl ?_
     have lD:=Un.below kI bW
     have auZ:=Un.below ha (Ext.below hB1 (Ext.below hB2 (Ext.below hB3 (Ext.below hB4 (Ext.below bH (Ext.below aZ bW))))))
     refine Pl.aA rfl rfl rfl rfl rfl qL ?_
     refine Calls.mono (kP _ _ _ ((o*o)%m) a _ lD auZ (Sn.le dZ (by decide)) (Sn.le hla (by decide)) rfl) ?_
     rintro e w8 ⟨zQ,rfl,qw,cB⟩
     refine ⟨_,rfl,trivial,?_⟩
     have pJ:Sn (((o*o)%m)*a) 190:=Sn.mul dZ hla (by decide)
     refine Pl.ah trivial rfl rfl rfl rfl rfl ?_
     have au0:=Un.below WQ (Ext.below aZ (Ext.below bW cB))
     refine Pl.aA rfl rfl rfl rfl rfl jH ?_
     refine Calls.mono (jU _ _ _ (((o*o)%m)*a) m _ _ qw au0 (Sn.le pJ (by decide)) (Sn.le hlm (by decide)) hm0 rfl rfl) ?_
     rintro e w9 ⟨⟨tO,wR,rfl,og,qQ⟩,eP⟩
     refine ⟨_,rfl,trivial,?_⟩
     have tQ:Sn ((((o*o)%m)*a)/m) 190:=Sn.div pJ
     have qR:Sn ((((o*o)%m)*a)%m) 100:=Sn.mod hlm hm0
     refine Pl.ah trivial rfl rfl rfl rfl rfl ?_
     refine Pl.aB trivial rfl rfl rfl rfl rfl rfl ?_
     refine Pl.aB trivial rfl rfl rfl rfl rfl rfl ?_
     refine Pl.aB trivial rfl rfl rfl rfl rfl rfl ?_
     refine Pl.aj trivial rfl rfl rfl rfl rfl ?_
     refine Pl.aj trivial rfl rfl rfl rfl rfl ?_
     refine Pl.aj trivial rfl rfl rfl rfl rfl ?_
     refine Pl.ak ?_
     refine Pl.ay (by kernel_rfl) ?_
     refine Pl.ah trivial rfl rfl rfl rfl rfl ?_
     refine Pl.aj trivial rfl rfl rfl rfl rfl ?_
     refine Pl.ak ?_
     refine Pl.bZ ?_
     refine Pl.ay (by kernel_rfl) ?_
     refine Pl.ah trivial rfl rfl rfl rfl rfl ?_
     refine Pl.aI (v:=(.int .i64 (((j-1:Nat):Int)-1))) trivial rfl rfl rfl rfl rfl rfl (fun X=>j6 (by omega) (by omega) (by omega) X) ?_
     refine Pl.aj trivial rfl rfl rfl rfl rfl ?_
     refine Pl.ak ?_
     exact Pl.iY [(0,va),(1,ve),(2,.slice A_ (limbs m).length c_),(9,wR),(11,.int .i64 (((j-1:Nat):Int)-1))] (Pl.aa rfl (Pl.aa rfl (Pl.aa rfl (Pl.aa rfl (Pl.aa rfl Pl.aK))))) (show j-1<j by omega) ⟨_,_,aff ho hj0 hbit,qR,by omega,(Ext.below hB4 (Ext.below bH (Ext.below aZ (Ext.below bW (Ext.below cB eP))))),qQ,rfl⟩
   · refine Pl.az ?_
     refine Pl.az ?_
     refine Pl.ay (by kernel_rfl) ?_
     refine Pl.ah trivial rfl rfl rfl rfl rfl ?_
     refine Pl.aI (v:=(.bool true)) trivial rfl rfl rfl rfl rfl rfl (fun X=>rV (decide_eq_true (by omega)) X) ?_
     refine Pl.ak ?_
     refine Pl.dh rfl ?_
     refine Pl.bN ?_
     refine Pl.az ?_
     refine Pl.cK ?_
     refine Pl.az ?_
     refine Pl.ay (by kernel_rfl) ?_
     refine Pl.ah trivial rfl rfl rfl rfl rfl ?_
     refine Pl.ah trivial rfl rfl rfl rfl rfl ?_
     refine Pl.aA rfl rfl rfl rfl rfl qL ?_
     refine Calls.mono (kP _ _ _ o o _ QK QK (Sn.le hos (by decide)) (Sn.le hos (by decide)) rfl) ?_
     rintro e w5 ⟨Nj,rfl,xu,bH⟩
     refine ⟨_,rfl,trivial,?_⟩
     have zB:Sn (o*o) 200:=Sn.mul hos hos (by decide)
     refine Pl.ah trivial rfl rfl rfl rfl rfl ?_
     have WQ:=Un.below afh (Ext.below hB2 (Ext.below hB3 (Ext.below hB4 bH)))
     refine Pl.aA rfl rfl rfl rfl rfl jH ?_
     refine Calls.mono (jU _ _ _ (o*o) m _ _ xu WQ (Sn.le zB (by decide)) (Sn.le hlm (by decide)) hm0 rfl rfl) ?_
     rintro e w6 ⟨⟨alU,rY,rfl,Kh,kI⟩,aZ⟩
     refine ⟨_,rfl,trivial,?_⟩
     have Fb:Sn ((o*o)/m) 200:=Sn.div zB
     have dZ:Sn ((o*o)%m) 100:=Sn.mod hlm hm0
     refine Pl.ah trivial rfl rfl rfl rfl rfl ?_
     refine Pl.aB trivial rfl rfl rfl rfl rfl rfl ?_
     refine Pl.aB trivial rfl rfl rfl rfl rfl rfl ?_
     refine Pl.aB trivial rfl rfl rfl rfl rfl rfl ?_
     refine Pl.aj trivial rfl rfl rfl rfl rfl ?_
     refine Pl.aj trivial rfl rfl rfl rfl rfl ?_
     refine Pl.aj trivial rfl rfl rfl rfl rfl ?_
     refine Pl.ak ?_
     refine Pl.az ?_
     refine Pl.ay (by kernel_rfl) ?_
     refine Pl.ah trivial rfl rfl rfl rfl rfl ?_
     refine Pl.aj trivial rfl rfl rfl rfl rfl ?_
     refine Pl.ak ?_
     refine Pl.az ?_
     refine Pl.ay (by kernel_rfl) ?_
     refine Pl.ah trivial rfl rfl rfl rfl rfl ?_
     refine Pl.ah trivial rfl rfl rfl rfl rfl ?_
     have afj:=Un.below afi (Ext.below hB3 (Ext.below hB4 (Ext.below bH aZ)))
     refine Pl.aA rfl rfl rfl rfl rfl auY ?_
     refine Calls.mono (l8 _ _ ee _ afj (by omega) (by omega) 0 hbit) ?_
     rintro e w7 ⟨rfl,bW⟩
     refine ⟨_,rfl,trivial,?_⟩
     refine Pl.aI (v:=(.bool false)) trivial rfl rfl rfl rfl rfl rfl (fun X=>by go_simp) ?_
     refine Pl.ak ?_
     refine Pl.bD rfl ?_
     refine Pl.bN ?_
     refine Pl.bZ ?_
     refine Pl.ay (by kernel_rfl) ?_
     refine Pl.ah trivial rfl rfl rfl rfl rfl ?_
     refine Pl.aI (v:=(.int .i64 (((j-1:Nat):Int)-1))) trivial rfl rfl rfl rfl rfl rfl (fun X=>j6 (by omega) (by omega) (by omega) X) ?_
     refine Pl.aj trivial rfl rfl rfl rfl rfl ?_
     refine Pl.ak ?_
     have lD:=Un.below kI bW
     exact Pl.iY [(0,va),(1,ve),(2,.slice A_ (limbs m).length c_),(9,rY),(11,.int .i64 (((j-1:Nat):Int)-1))] (Pl.aa rfl (Pl.aa rfl (Pl.aa rfl (Pl.aa rfl (Pl.aa rfl Pl.aK))))) (show j-1<j by omega) ⟨_,_,afg ho hj0 hbit,dZ,by omega,(Ext.below hB4 (Ext.below bH (Ext.below aZ bW))),lD,rfl⟩
end Go.Proofs.YtnilonnkcbkdmaaGreatDoor
namespace Go.Proofs.YtnilonnkcbkdmaaGreatDoor
open Go.RowKit
set_option linter.unusedVariables false
set_option maxHeartbeats 400000
theorem oP (a m:Nat):Nat.gcd (a%m) m=Nat.gcd a m:=by rw [Nat.gcd_comm a m,Nat.gcd_rec m a]
theorem iy {a m:Nat} (h:Nat.gcd a m=1):Nat.gcd (a%m) m=1:=(oP a m).trans h
theorem Bq {a m:Nat} (h:Nat.gcd a m≠1):Nat.gcd (a%m) m≠1:=fun e=>h ((oP a m).symm.trans e)
theorem uH {m:Nat} (z:Int) (h:m≠0):(z%(m:Int)).natAbs<m:=by
 have h1:=Int.emod_nonneg z (show (m:Int)≠0 by omega)
 have h2:=Int.emod_lt_of_pos z (show (0:Int)<(m:Int) by omega)
 omega
theorem oQ {m K:Nat} {z:Int} (hm:Sn m K) (h:m≠0):Sn (z%(m:Int)).natAbs K:=hm.down (Nat.le_of_lt (uH z h))
end Go.Proofs.YtnilonnkcbkdmaaGreatDoor
namespace Go.Proofs.YtnilonnkcbkdmaaGreatDoor
open Go.RowKit
set_option linter.unusedVariables false
set_option linter.unusedSimpArgs false
set_option maxHeartbeats 400000
namespace QL
theorem qB (u:Array Value) (X:World):(callFunc 12 u).run Tryz.prog X = .ok (.enter 12 u) X:=Pl.enters Tryz.func12 (by kernel_rfl) rfl u X
theorem jh (u:Array Value) (X:World):(callFunc 13 u).run Tryz.prog X = .ok (.enter 13 u) X:=Pl.enters Tryz.func13 (by kernel_rfl) rfl u X
theorem gT (u:Array Value) (X:World):(callFunc 19 u).run Tryz.prog X = .ok (.enter 19 u) X:=Pl.enters Tryz.func19 (by kernel_rfl) rfl u X
theorem rG (u:Array Value) (X:World):(callFunc 24 u).run Tryz.prog X = .ok (.enter 24 u) X:=Pl.enters Tryz.func24 (by kernel_rfl) rfl u X
theorem aoP (u:Array Value) (X:World):(callFunc 25 u).run Tryz.prog X = .ok (.enter 25 u) X:=Pl.enters Tryz.func25 (by kernel_rfl) rfl u X
theorem uG (u:Array Value) (X:World):(callFunc 26 u).run Tryz.prog X = .ok (.enter 26 u) X:=Pl.enters Tryz.func26 (by kernel_rfl) rfl u X
theorem aoQ (u:Array Value) (X:World):(callFunc 27 u).run Tryz.prog X = .ok (.enter 27 u) X:=Pl.enters Tryz.func27 (by kernel_rfl) rfl u X
end QL
open QL
set_option maxRecDepth 100000 in
set_option maxHeartbeats 4000000 in
theorem QM (w:World) (r0:Value) (xa:List Nat) (u0:U w r0 xa) (r1:Value) (OE:List Nat) (u1:U w r1 OE) (r2:Value) (xm:List Nat) (u2:U w r2 xm) (a ee m:Nat) (da:dG xa 12=a) (hla:Sn a 12) (dee:dG OE 3=ee) (Fw:Sn ee 3) (dm:dG xm 12=m) (hlm:Sn m 12) (hm0:m=0) :
  Calls Tryz.prog 4 #[r0,r1,r2] w fun e w'=>e = .returned (.bool true)∧Ext w w':=by
 refine Pl.aV (n:=70) (vs:=[r0,r1,r2]) Tryz.func4 rfl (by kernel_rfl) (by simp) ?_
 refine Pl.az ?_
 refine Pl.ay (by kernel_rfl) ?_
 refine Pl.aj trivial rfl rfl rfl rfl rfl ?_
 refine Pl.ak ?_
 refine Pl.az ?_
 refine Pl.ay (by kernel_rfl) ?_
 refine Pl.aA rfl rfl rfl rfl rfl qB ?_
 refine Calls.mono (pK _) ?_
 rintro e w1 ⟨rfl,hB1⟩
 refine ⟨_,rfl,trivial,?_⟩
 refine Pl.aj trivial rfl rfl rfl rfl rfl ?_
 refine Pl.ak ?_
 refine Pl.az ?_
 refine Pl.ay (by kernel_rfl) ?_
 refine Pl.ah trivial rfl rfl rfl rfl rfl ?_
 have jI:=U.below u0 hB1
 refine Pl.aA rfl rfl rfl rfl rfl jh ?_
 refine Calls.mono (dR _ _ xa 12 jI (by decide) (by decide) a da) ?_
 rintro e w2 ⟨jm,rfl,bn,hB2⟩
 refine ⟨_,rfl,trivial,?_⟩
 refine Pl.aj trivial rfl rfl rfl rfl rfl ?_
 refine Pl.ak ?_
 refine Pl.az ?_
 refine Pl.ay (by kernel_rfl) ?_
 refine Pl.ah trivial rfl rfl rfl rfl rfl ?_
 have jV:=U.below u1 (Ext.below hB1 hB2)
 refine Pl.aA rfl rfl rfl rfl rfl jh ?_
 refine Calls.mono (dR _ _ OE 3 jV (by decide) (by decide) ee dee) ?_
 rintro e w3 ⟨au1,rfl,afk,hB3⟩
 refine ⟨_,rfl,trivial,?_⟩
 refine Pl.aj trivial rfl rfl rfl rfl rfl ?_
 refine Pl.ak ?_
 refine Pl.az ?_
 refine Pl.ay (by kernel_rfl) ?_
 refine Pl.ah trivial rfl rfl rfl rfl rfl ?_
 have I4:=U.below u2 (Ext.below hB1 (Ext.below hB2 hB3))
 refine Pl.aA rfl rfl rfl rfl rfl jh ?_
 refine Calls.mono (dR _ _ xm 12 I4 (by decide) (by decide) m dm) ?_
 rintro e w4 ⟨tY,rfl,qb,hB4⟩
 refine ⟨_,rfl,trivial,?_⟩
 refine Pl.aj trivial rfl rfl rfl rfl rfl ?_
 refine Pl.ak ?_
 refine Pl.az ?_
 refine Pl.ay (by kernel_rfl) ?_
 refine Pl.ah trivial rfl rfl rfl rfl rfl ?_
 refine Pl.ah trivial rfl rfl rfl rfl rfl ?_
 have gL:=Un.below bn (Ext.below hB3 hB4)
 refine Pl.aA rfl rfl rfl rfl rfl rG ?_
 refine Calls.mono (uO _ _ _ a m gL qb (Sn.le hla (by decide)) (Sn.le hlm (by decide)) hm0) ?_
 rintro e w5 ⟨rfl,bH⟩
 refine ⟨_,rfl,trivial,?_⟩
 refine Pl.ah trivial rfl rfl rfl rfl rfl ?_
 refine Pl.aB trivial rfl rfl rfl rfl rfl rfl ?_
 refine Pl.aB trivial rfl rfl rfl rfl rfl rfl ?_
 refine Pl.aj trivial rfl rfl rfl rfl rfl ?_
 refine Pl.aj trivial rfl rfl rfl rfl rfl ?_
 refine Pl.ak ?_
 refine Pl.az ?_
 refine Pl.ay (by kernel_rfl) ?_
 refine Pl.ah trivial rfl rfl rfl rfl rfl ?_
 refine Pl.ah trivial rfl rfl rfl rfl rfl ?_
 have lX:=Un.below gL bH
 have yE:=Un.below qb bH
 refine Pl.aA rfl rfl rfl rfl rfl aoP ?_
 refine Calls.mono (Uf _ _ _ a m lX yE (Sn.le hla (by decide)) (Sn.le hlm (by decide)) hm0) ?_
 rintro e w6 ⟨rfl,aZ⟩
 refine ⟨_,rfl,trivial,?_⟩
 refine Pl.ah trivial rfl rfl rfl rfl rfl ?_
 refine Pl.aB trivial rfl rfl rfl rfl rfl rfl ?_
 refine Pl.aB trivial rfl rfl rfl rfl rfl rfl ?_
 refine Pl.aj trivial rfl rfl rfl rfl rfl ?_
 refine Pl.aj trivial rfl rfl rfl rfl rfl ?_
 refine Pl.ak ?_
 refine Pl.az ?_
 refine Pl.ay (by kernel_rfl) ?_
 refine Pl.ah trivial rfl rfl rfl rfl rfl ?_
 refine Pl.ah trivial rfl rfl rfl rfl rfl ?_
 refine Pl.ah trivial rfl rfl rfl rfl rfl ?_
 have qK:=Un.below lX aZ
 have uo:=Un.below afk (Ext.below hB4 (Ext.below bH aZ))
 have yF:=Un.below yE aZ
 refine Pl.aA rfl rfl rfl rfl rfl uG ?_
 refine Calls.mono (Ph _ _ _ _ a ee m qK uo yF (Sn.le hla (by decide)) (Sn.le Fw (by decide)) (Sn.le hlm (by decide)) hm0) ?_
 rintro e w7 ⟨rfl,bW⟩
 refine ⟨_,rfl,trivial,?_⟩
 refine Pl.ah trivial rfl rfl rfl rfl rfl ?_
 refine Pl.aB trivial rfl rfl rfl rfl rfl rfl ?_
 refine Pl.aB trivial rfl rfl rfl rfl rfl rfl ?_
 refine Pl.aj trivial rfl rfl rfl rfl rfl ?_
 refine Pl.aj trivial rfl rfl rfl rfl rfl ?_
 refine Pl.ak ?_
 refine Pl.az ?_
 refine Pl.ay (by kernel_rfl) ?_
 refine Pl.ah trivial rfl rfl rfl rfl rfl ?_
 refine Pl.ah trivial rfl rfl rfl rfl rfl ?_
 refine Pl.ah trivial rfl rfl rfl rfl rfl ?_
 have nP:=Un.below qK bW
 have CR:=Un.below uo bW
 have Jq:=Un.below yF bW
 refine Pl.aA rfl rfl rfl rfl rfl aoQ ?_
 refine Calls.mono (aiT _ _ _ _ a ee m nP CR Jq (Sn.le hla (by decide)) (Sn.le Fw (by decide)) (Sn.le hlm (by decide)) hm0) ?_
 rintro e w8 ⟨rfl,cB⟩
 refine ⟨_,rfl,trivial,?_⟩
 refine Pl.ah trivial rfl rfl rfl rfl rfl ?_
 refine Pl.aB trivial rfl rfl rfl rfl rfl rfl ?_
 refine Pl.aB trivial rfl rfl rfl rfl rfl rfl ?_
 refine Pl.aj trivial rfl rfl rfl rfl rfl ?_
 refine Pl.aj trivial rfl rfl rfl rfl rfl ?_
 refine Pl.ak ?_
 refine Pl.az ?_
 refine Pl.ay (by kernel_rfl) ?_
 refine Pl.ah trivial rfl rfl rfl rfl rfl ?_
 refine Pl.ah trivial rfl rfl rfl rfl rfl ?_
 refine Pl.aA rfl rfl rfl rfl rfl gT ?_
 refine Calls.mono (eZ _ _ _ 0 0 (Un.nil _ _ _) (Un.nil _ _ _) true (decide_eq_true rfl)) ?_
 rintro e w9 ⟨rfl,eP⟩
 refine ⟨_,rfl,trivial,?_⟩
 refine Pl.ah trivial rfl rfl rfl rfl rfl ?_
 refine Pl.ah trivial rfl rfl rfl rfl rfl ?_
 refine Pl.ah trivial rfl rfl rfl rfl rfl ?_
 refine Pl.aI (v:=(.bool true)) trivial rfl rfl rfl rfl rfl rfl (fun X=>by go_simp) ?_
 refine Pl.aO trivial rfl rfl rfl rfl rfl rfl ?_
 refine Pl.ah trivial rfl rfl rfl rfl rfl ?_
 refine Pl.ah trivial rfl rfl rfl rfl rfl ?_
 refine Pl.ah trivial rfl rfl rfl rfl rfl ?_
 refine Pl.aA rfl rfl rfl rfl rfl gT ?_
 refine Calls.mono (eZ _ _ _ 0 0 (Un.nil _ _ _) (Un.nil _ _ _) true (decide_eq_true rfl)) ?_
 rintro e xN ⟨rfl,bY⟩
 refine ⟨_,rfl,trivial,?_⟩
 refine Pl.aO trivial rfl rfl rfl rfl rfl rfl ?_
 refine Pl.ah trivial rfl rfl rfl rfl rfl ?_
 refine Pl.ah trivial rfl rfl rfl rfl rfl ?_
 refine Pl.ah trivial rfl rfl rfl rfl rfl ?_
 refine Pl.aI (v:=(.bool true)) trivial rfl rfl rfl rfl rfl rfl (fun X=>by go_simp) ?_
 refine Pl.aO trivial rfl rfl rfl rfl rfl rfl ?_
 refine Pl.ah trivial rfl rfl rfl rfl rfl ?_
 refine Pl.ah trivial rfl rfl rfl rfl rfl ?_
 refine Pl.aO trivial rfl rfl rfl rfl rfl rfl ?_
 refine Pl.aj trivial rfl rfl rfl rfl rfl ?_
 refine Pl.ak ?_
 refine Pl.bU rfl rfl ?_
 exact ⟨rfl,(Ext.below hB1 (Ext.below hB2 (Ext.below hB3 (Ext.below hB4 (Ext.below bH (Ext.below aZ (Ext.below bW (Ext.below cB (Ext.below eP bY)))))))))⟩
set_option maxRecDepth 100000 in
set_option maxHeartbeats 4000000 in
theorem QN (w:World) (r0:Value) (xa:List Nat) (u0:U w r0 xa) (r1:Value) (OE:List Nat) (u1:U w r1 OE) (r2:Value) (xm:List Nat) (u2:U w r2 xm) (a ee m:Nat) (da:dG xa 12=a) (hla:Sn a 12) (dee:dG OE 3=ee) (Fw:Sn ee 3) (dm:dG xm 12=m) (hlm:Sn m 12) (hm0:m≠0) (hg:Nat.gcd a m≠1) :
  Calls Tryz.prog 4 #[r0,r1,r2] w fun e w'=>e = .returned (.bool true)∧Ext w w':=by
 refine Pl.aV (n:=70) (vs:=[r0,r1,r2]) Tryz.func4 rfl (by kernel_rfl) (by simp) ?_
 refine Pl.az ?_
 refine Pl.ay (by kernel_rfl) ?_
 refine Pl.aj trivial rfl rfl rfl rfl rfl ?_
 refine Pl.ak ?_
 refine Pl.az ?_
 refine Pl.ay (by kernel_rfl) ?_
 refine Pl.aA rfl rfl rfl rfl rfl qB ?_
 refine Calls.mono (pK _) ?_
 rintro e w1 ⟨rfl,hB1⟩
 refine ⟨_,rfl,trivial,?_⟩
 refine Pl.aj trivial rfl rfl rfl rfl rfl ?_
 refine Pl.ak ?_
 refine Pl.az ?_
 refine Pl.ay (by kernel_rfl) ?_
 refine Pl.ah trivial rfl rfl rfl rfl rfl ?_
 have jI:=U.below u0 hB1
 refine Pl.aA rfl rfl rfl rfl rfl jh ?_
 refine Calls.mono (dR _ _ xa 12 jI (by decide) (by decide) a da) ?_
 rintro e w2 ⟨jm,rfl,bn,hB2⟩
 refine ⟨_,rfl,trivial,?_⟩
 refine Pl.aj trivial rfl rfl rfl rfl rfl ?_
 refine Pl.ak ?_
 refine Pl.az ?_
 refine Pl.ay (by kernel_rfl) ?_
 refine Pl.ah trivial rfl rfl rfl rfl rfl ?_
 have jV:=U.below u1 (Ext.below hB1 hB2)
 refine Pl.aA rfl rfl rfl rfl rfl jh ?_
 refine Calls.mono (dR _ _ OE 3 jV (by decide) (by decide) ee dee) ?_
 rintro e w3 ⟨au1,rfl,afk,hB3⟩
 refine ⟨_,rfl,trivial,?_⟩
 refine Pl.aj trivial rfl rfl rfl rfl rfl ?_
 refine Pl.ak ?_
 refine Pl.az ?_
 refine Pl.ay (by kernel_rfl) ?_
 refine Pl.ah trivial rfl rfl rfl rfl rfl ?_
 have I4:=U.below u2 (Ext.below hB1 (Ext.below hB2 hB3))
 refine Pl.aA rfl rfl rfl rfl rfl jh ?_
 refine Calls.mono (dR _ _ xm 12 I4 (by decide) (by decide) m dm) ?_
 rintro e w4 ⟨tY,rfl,qb,hB4⟩
 refine ⟨_,rfl,trivial,?_⟩
 refine Pl.aj trivial rfl rfl rfl rfl rfl ?_
 refine Pl.ak ?_
 refine Pl.az ?_
 refine Pl.ay (by kernel_rfl) ?_
 refine Pl.ah trivial rfl rfl rfl rfl rfl ?_
 refine Pl.ah trivial rfl rfl rfl rfl rfl ?_
 have gL:=Un.below bn (Ext.below hB3 hB4)
 refine Pl.aA rfl rfl rfl rfl rfl rG ?_
 refine Calls.mono (DJ _ _ _ a m gL qb (Sn.le hla (by decide)) (Sn.le hlm (by decide)) hm0 (Bq hg)) ?_
 rintro e w5 ⟨rfl,bH⟩
 refine ⟨_,rfl,trivial,?_⟩
 refine Pl.ah trivial rfl rfl rfl rfl rfl ?_
 refine Pl.aB trivial rfl rfl rfl rfl rfl rfl ?_
 refine Pl.aB trivial rfl rfl rfl rfl rfl rfl ?_
 refine Pl.aj trivial rfl rfl rfl rfl rfl ?_
 refine Pl.aj trivial rfl rfl rfl rfl rfl ?_
 refine Pl.ak ?_
 refine Pl.az ?_
 refine Pl.ay (by kernel_rfl) ?_
 refine Pl.ah trivial rfl rfl rfl rfl rfl ?_
 refine Pl.ah trivial rfl rfl rfl rfl rfl ?_
 have lX:=Un.below gL bH
 have yE:=Un.below qb bH
 refine Pl.aA rfl rfl rfl rfl rfl aoP ?_
 refine Calls.mono (Uo _ _ _ a m lX yE (Sn.le hla (by decide)) (Sn.le hlm (by decide)) hm0 hg) ?_
 rintro e w6 ⟨rfl,aZ⟩
 refine ⟨_,rfl,trivial,?_⟩
 refine Pl.ah trivial rfl rfl rfl rfl rfl ?_
 refine Pl.aB trivial rfl rfl rfl rfl rfl rfl ?_
 refine Pl.aB trivial rfl rfl rfl rfl rfl rfl ?_
 refine Pl.aj trivial rfl rfl rfl rfl rfl ?_
 refine Pl.aj trivial rfl rfl rfl rfl rfl ?_
 refine Pl.ak ?_
 refine Pl.az ?_
 refine Pl.ay (by kernel_rfl) ?_
 refine Pl.ah trivial rfl rfl rfl rfl rfl ?_
 refine Pl.ah trivial rfl rfl rfl rfl rfl ?_
 refine Pl.ah trivial rfl rfl rfl rfl rfl ?_
 have qK:=Un.below lX aZ
 have uo:=Un.below afk (Ext.below hB4 (Ext.below bH aZ))
 have yF:=Un.below yE aZ
 refine Pl.aA rfl rfl rfl rfl rfl uG ?_
 refine Calls.mono (jF _ _ _ _ a ee m qK uo yF (Sn.le hla (by decide)) (Sn.le Fw (by decide)) (Sn.le hlm (by decide)) hm0) ?_
 rintro e w7 ⟨rY,rfl,kI,bW⟩
 refine ⟨_,rfl,trivial,?_⟩
 have dZ:Sn (a^ee%m) 12:=Sn.mod hlm hm0
 refine Pl.ah trivial rfl rfl rfl rfl rfl ?_
 refine Pl.aB trivial rfl rfl rfl rfl rfl rfl ?_
 refine Pl.aB trivial rfl rfl rfl rfl rfl rfl ?_
 refine Pl.aj trivial rfl rfl rfl rfl rfl ?_
 refine Pl.aj trivial rfl rfl rfl rfl rfl ?_
 refine Pl.ak ?_
 refine Pl.az ?_
 refine Pl.ay (by kernel_rfl) ?_
 refine Pl.ah trivial rfl rfl rfl rfl rfl ?_
 refine Pl.ah trivial rfl rfl rfl rfl rfl ?_
 refine Pl.ah trivial rfl rfl rfl rfl rfl ?_
 have nP:=Un.below qK bW
 have CR:=Un.below uo bW
 have Jq:=Un.below yF bW
 refine Pl.aA rfl rfl rfl rfl rfl aoQ ?_
 refine Calls.mono (WO _ _ _ _ a ee m nP CR Jq (Sn.le hla (by decide)) (Sn.le Fw (by decide)) (Sn.le hlm (by decide)) hm0) ?_
 rintro e w8 ⟨Gx,rfl,qx,cB⟩
 refine ⟨_,rfl,trivial,?_⟩
 have tN:Sn (a^ee%m) 12:=Sn.mod hlm hm0
 refine Pl.ah trivial rfl rfl rfl rfl rfl ?_
 refine Pl.aB trivial rfl rfl rfl rfl rfl rfl ?_
 refine Pl.aB trivial rfl rfl rfl rfl rfl rfl ?_
 refine Pl.aj trivial rfl rfl rfl rfl rfl ?_
 refine Pl.aj trivial rfl rfl rfl rfl rfl ?_
 refine Pl.ak ?_
 refine Pl.az ?_
 refine Pl.ay (by kernel_rfl) ?_
 refine Pl.ah trivial rfl rfl rfl rfl rfl ?_
 refine Pl.ah trivial rfl rfl rfl rfl rfl ?_
 refine Pl.aA rfl rfl rfl rfl rfl gT ?_
 refine Calls.mono (eZ _ _ _ 0 0 (Un.nil _ _ _) (Un.nil _ _ _) true (decide_eq_true rfl)) ?_
 rintro e w9 ⟨rfl,eP⟩
 refine ⟨_,rfl,trivial,?_⟩
 refine Pl.ah trivial rfl rfl rfl rfl rfl ?_
 refine Pl.ah trivial rfl rfl rfl rfl rfl ?_
 refine Pl.ah trivial rfl rfl rfl rfl rfl ?_
 refine Pl.aI (v:=(.bool true)) trivial rfl rfl rfl rfl rfl rfl (fun X=>by go_simp) ?_
 refine Pl.aO trivial rfl rfl rfl rfl rfl rfl ?_
 refine Pl.ah trivial rfl rfl rfl rfl rfl ?_
 refine Pl.ah trivial rfl rfl rfl rfl rfl ?_
 refine Pl.ah trivial rfl rfl rfl rfl rfl ?_
 have afl:=Un.below kI (Ext.below cB eP)
 have afm:=Un.below qx eP
 refine Pl.aA rfl rfl rfl rfl rfl gT ?_
 refine Calls.mono (eZ _ _ _ (a^ee%m) (a^ee%m) afl afm true (decide_eq_true rfl)) ?_
 rintro e xN ⟨rfl,bY⟩
 refine ⟨_,rfl,trivial,?_⟩
 refine Pl.aO trivial rfl rfl rfl rfl rfl rfl ?_
 refine Pl.ah trivial rfl rfl rfl rfl rfl ?_
 refine Pl.ah trivial rfl rfl rfl rfl rfl ?_
 refine Pl.ah trivial rfl rfl rfl rfl rfl ?_
 refine Pl.aI (v:=(.bool true)) trivial rfl rfl rfl rfl rfl rfl (fun X=>by go_simp) ?_
 refine Pl.aO trivial rfl rfl rfl rfl rfl rfl ?_
 refine Pl.ah trivial rfl rfl rfl rfl rfl ?_
 refine Pl.ah trivial rfl rfl rfl rfl rfl ?_
 refine Pl.aO trivial rfl rfl rfl rfl rfl rfl ?_
 refine Pl.aj trivial rfl rfl rfl rfl rfl ?_
 refine Pl.ak ?_
 refine Pl.bU rfl rfl ?_
 exact ⟨rfl,(Ext.below hB1 (Ext.below hB2 (Ext.below hB3 (Ext.below hB4 (Ext.below bH (Ext.below aZ (Ext.below bW (Ext.below cB (Ext.below eP bY)))))))))⟩
set_option maxRecDepth 100000 in
set_option maxHeartbeats 4000000 in
theorem QO (w:World) (r0:Value) (xa:List Nat) (u0:U w r0 xa) (r1:Value) (OE:List Nat) (u1:U w r1 OE) (r2:Value) (xm:List Nat) (u2:U w r2 xm) (a ee m:Nat) (da:dG xa 12=a) (hla:Sn a 12) (dee:dG OE 3=ee) (Fw:Sn ee 3) (dm:dG xm 12=m) (hlm:Sn m 12) (hm0:m≠0) (hg:Nat.gcd a m=1) :
  Calls Tryz.prog 4 #[r0,r1,r2] w fun e w'=>e = .returned (.bool true)∧Ext w w':=by
 refine Pl.aV (n:=70) (vs:=[r0,r1,r2]) Tryz.func4 rfl (by kernel_rfl) (by simp) ?_
 refine Pl.az ?_
 refine Pl.ay (by kernel_rfl) ?_
 refine Pl.aj trivial rfl rfl rfl rfl rfl ?_
 refine Pl.ak ?_
 refine Pl.az ?_
 refine Pl.ay (by kernel_rfl) ?_
 refine Pl.aA rfl rfl rfl rfl rfl qB ?_
 refine Calls.mono (pK _) ?_
 rintro e w1 ⟨rfl,hB1⟩
 refine ⟨_,rfl,trivial,?_⟩
 refine Pl.aj trivial rfl rfl rfl rfl rfl ?_
 refine Pl.ak ?_
 refine Pl.az ?_
 refine Pl.ay (by kernel_rfl) ?_
 refine Pl.ah trivial rfl rfl rfl rfl rfl ?_
 have jI:=U.below u0 hB1
 refine Pl.aA rfl rfl rfl rfl rfl jh ?_
 refine Calls.mono (dR _ _ xa 12 jI (by decide) (by decide) a da) ?_
 rintro e w2 ⟨jm,rfl,bn,hB2⟩
 refine ⟨_,rfl,trivial,?_⟩
 refine Pl.aj trivial rfl rfl rfl rfl rfl ?_
 refine Pl.ak ?_
 refine Pl.az ?_
 refine Pl.ay (by kernel_rfl) ?_
 refine Pl.ah trivial rfl rfl rfl rfl rfl ?_
 have jV:=U.below u1 (Ext.below hB1 hB2)
 refine Pl.aA rfl rfl rfl rfl rfl jh ?_
 refine Calls.mono (dR _ _ OE 3 jV (by decide) (by decide) ee dee) ?_
 rintro e w3 ⟨au1,rfl,afk,hB3⟩
 refine ⟨_,rfl,trivial,?_⟩
 refine Pl.aj trivial rfl rfl rfl rfl rfl ?_
 refine Pl.ak ?_
 refine Pl.az ?_
 refine Pl.ay (by kernel_rfl) ?_
 refine Pl.ah trivial rfl rfl rfl rfl rfl ?_
 have I4:=U.below u2 (Ext.below hB1 (Ext.below hB2 hB3))
 refine Pl.aA rfl rfl rfl rfl rfl jh ?_
 refine Calls.mono (dR _ _ xm 12 I4 (by decide) (by decide) m dm) ?_
 rintro e w4 ⟨tY,rfl,qb,hB4⟩
 refine ⟨_,rfl,trivial,?_⟩
 refine Pl.aj trivial rfl rfl rfl rfl rfl ?_
 refine Pl.ak ?_
 refine Pl.az ?_
 refine Pl.ay (by kernel_rfl) ?_
 refine Pl.ah trivial rfl rfl rfl rfl rfl ?_
 refine Pl.ah trivial rfl rfl rfl rfl rfl ?_
 have gL:=Un.below bn (Ext.below hB3 hB4)
 refine Pl.aA rfl rfl rfl rfl rfl rG ?_
 refine Calls.mono (jO _ _ _ a m gL qb (Sn.le hla (by decide)) (Sn.le hlm (by decide)) hm0 (iy hg)) ?_
 rintro e w5 ⟨rE,rfl,mY,bH⟩
 refine ⟨_,rfl,trivial,?_⟩
 have rF:Sn (((cf (quo (a%m) m) 1 0).1%((m:Nat):Int)).natAbs) 12:=oQ hlm hm0
 refine Pl.ah trivial rfl rfl rfl rfl rfl ?_
 refine Pl.aB trivial rfl rfl rfl rfl rfl rfl ?_
 refine Pl.aB trivial rfl rfl rfl rfl rfl rfl ?_
 refine Pl.aj trivial rfl rfl rfl rfl rfl ?_
 refine Pl.aj trivial rfl rfl rfl rfl rfl ?_
 refine Pl.ak ?_
 refine Pl.az ?_
 refine Pl.ay (by kernel_rfl) ?_
 refine Pl.ah trivial rfl rfl rfl rfl rfl ?_
 refine Pl.ah trivial rfl rfl rfl rfl rfl ?_
 have lX:=Un.below gL bH
 have yE:=Un.below qb bH
 refine Pl.aA rfl rfl rfl rfl rfl aoP ?_
 refine Calls.mono (Uq _ _ _ a m lX yE (Sn.le hla (by decide)) (Sn.le hlm (by decide)) hm0 hg) ?_
 rintro e w6 ⟨azu,rfl,aih,aZ⟩
 refine ⟨_,rfl,trivial,?_⟩
 have aGP:Sn (((cf (quo a m) 1 0).1%((m:Nat):Int)).natAbs) 12:=oQ hlm hm0
 refine Pl.ah trivial rfl rfl rfl rfl rfl ?_
 refine Pl.aB trivial rfl rfl rfl rfl rfl rfl ?_
 refine Pl.aB trivial rfl rfl rfl rfl rfl rfl ?_
 refine Pl.aj trivial rfl rfl rfl rfl rfl ?_
 refine Pl.aj trivial rfl rfl rfl rfl rfl ?_
 refine Pl.ak ?_
 refine Pl.az ?_
 refine Pl.ay (by kernel_rfl) ?_
 refine Pl.ah trivial rfl rfl rfl rfl rfl ?_
 refine Pl.ah trivial rfl rfl rfl rfl rfl ?_
 refine Pl.ah trivial rfl rfl rfl rfl rfl ?_
 have qK:=Un.below lX aZ
 have uo:=Un.below afk (Ext.below hB4 (Ext.below bH aZ))
 have yF:=Un.below yE aZ
 refine Pl.aA rfl rfl rfl rfl rfl uG ?_
 refine Calls.mono (jF _ _ _ _ a ee m qK uo yF (Sn.le hla (by decide)) (Sn.le Fw (by decide)) (Sn.le hlm (by decide)) hm0) ?_
 rintro e w7 ⟨zQ,rfl,qw,bW⟩
 refine ⟨_,rfl,trivial,?_⟩
 have pJ:Sn (a^ee%m) 12:=Sn.mod hlm hm0
 refine Pl.ah trivial rfl rfl rfl rfl rfl ?_
 refine Pl.aB trivial rfl rfl rfl rfl rfl rfl ?_
 refine Pl.aB trivial rfl rfl rfl rfl rfl rfl ?_
 refine Pl.aj trivial rfl rfl rfl rfl rfl ?_
 refine Pl.aj trivial rfl rfl rfl rfl rfl ?_
 refine Pl.ak ?_
 refine Pl.az ?_
 refine Pl.ay (by kernel_rfl) ?_
 refine Pl.ah trivial rfl rfl rfl rfl rfl ?_
 refine Pl.ah trivial rfl rfl rfl rfl rfl ?_
 refine Pl.ah trivial rfl rfl rfl rfl rfl ?_
 have nP:=Un.below qK bW
 have CR:=Un.below uo bW
 have Jq:=Un.below yF bW
 refine Pl.aA rfl rfl rfl rfl rfl aoQ ?_
 refine Calls.mono (WO _ _ _ _ a ee m nP CR Jq (Sn.le hla (by decide)) (Sn.le Fw (by decide)) (Sn.le hlm (by decide)) hm0) ?_
 rintro e w8 ⟨tO,rfl,og,cB⟩
 refine ⟨_,rfl,trivial,?_⟩
 have tQ:Sn (a^ee%m) 12:=Sn.mod hlm hm0
 refine Pl.ah trivial rfl rfl rfl rfl rfl ?_
 refine Pl.aB trivial rfl rfl rfl rfl rfl rfl ?_
 refine Pl.aB trivial rfl rfl rfl rfl rfl rfl ?_
 refine Pl.aj trivial rfl rfl rfl rfl rfl ?_
 refine Pl.aj trivial rfl rfl rfl rfl rfl ?_
 refine Pl.ak ?_
 refine Pl.az ?_
 refine Pl.ay (by kernel_rfl) ?_
 refine Pl.ah trivial rfl rfl rfl rfl rfl ?_
 refine Pl.ah trivial rfl rfl rfl rfl rfl ?_
 have nM:=Un.below mY (Ext.below aZ (Ext.below bW cB))
 have aiV:=Un.below aih (Ext.below bW cB)
 refine Pl.aA rfl rfl rfl rfl rfl gT ?_
 refine Calls.mono (eZ _ _ _ (((cf (quo (a%m) m) 1 0).1%((m:Nat):Int)).natAbs) (((cf (quo a m) 1 0).1%((m:Nat):Int)).natAbs) nM aiV true (decide_eq_true (afe hg))) ?_
 rintro e w9 ⟨rfl,eP⟩
 refine ⟨_,rfl,trivial,?_⟩
 refine Pl.ah trivial rfl rfl rfl rfl rfl ?_
 refine Pl.ah trivial rfl rfl rfl rfl rfl ?_
 refine Pl.ah trivial rfl rfl rfl rfl rfl ?_
 refine Pl.aI (v:=(.bool true)) trivial rfl rfl rfl rfl rfl rfl (fun X=>by go_simp) ?_
 refine Pl.aO trivial rfl rfl rfl rfl rfl rfl ?_
 refine Pl.ah trivial rfl rfl rfl rfl rfl ?_
 refine Pl.ah trivial rfl rfl rfl rfl rfl ?_
 refine Pl.ah trivial rfl rfl rfl rfl rfl ?_
 have afn:=Un.below qw (Ext.below cB eP)
 have afo:=Un.below og eP
 refine Pl.aA rfl rfl rfl rfl rfl gT ?_
 refine Calls.mono (eZ _ _ _ (a^ee%m) (a^ee%m) afn afo true (decide_eq_true rfl)) ?_
 rintro e xN ⟨rfl,bY⟩
 refine ⟨_,rfl,trivial,?_⟩
 refine Pl.aO trivial rfl rfl rfl rfl rfl rfl ?_
 refine Pl.ah trivial rfl rfl rfl rfl rfl ?_
 refine Pl.ah trivial rfl rfl rfl rfl rfl ?_
 refine Pl.ah trivial rfl rfl rfl rfl rfl ?_
 refine Pl.aI (v:=(.bool true)) trivial rfl rfl rfl rfl rfl rfl (fun X=>by go_simp) ?_
 refine Pl.aO trivial rfl rfl rfl rfl rfl rfl ?_
 refine Pl.ah trivial rfl rfl rfl rfl rfl ?_
 refine Pl.ah trivial rfl rfl rfl rfl rfl ?_
 refine Pl.aO trivial rfl rfl rfl rfl rfl rfl ?_
 refine Pl.aj trivial rfl rfl rfl rfl rfl ?_
 refine Pl.ak ?_
 refine Pl.bU rfl rfl ?_
 exact ⟨rfl,(Ext.below hB1 (Ext.below hB2 (Ext.below hB3 (Ext.below hB4 (Ext.below bH (Ext.below aZ (Ext.below bW (Ext.below cB (Ext.below eP bY)))))))))⟩
theorem Jr (w:World) (r0:Value) (xa:List Nat) (u0:U w r0 xa) (r1:Value) (OE:List Nat) (u1:U w r1 OE) (r2:Value) (xm:List Nat) (u2:U w r2 xm) :
  Calls Tryz.prog 4 #[r0,r1,r2] w fun e w'=>e = .returned (.bool true)∧Ext w w':=by
 obtain ⟨a,da⟩:∃ a,dG xa 12=a:=⟨_,rfl⟩
 have hla:Sn a 12:=by rw [← da];exact iA (iE xa 12 u0.lim)
 obtain ⟨ee,dee⟩:∃ ee,dG OE 3=ee:=⟨_,rfl⟩
 have Fw:Sn ee 3:=by rw [← dee];exact iA (iE OE 3 u1.lim)
 obtain ⟨m,dm⟩:∃ m,dG xm 12=m:=⟨_,rfl⟩
 have hlm:Sn m 12:=by rw [← dm];exact iA (iE xm 12 u2.lim)
 by_cases hm0:m=0
 · exact QM w r0 xa u0 r1 OE u1 r2 xm u2 a ee m da hla dee Fw dm hlm hm0
 by_cases hg:Nat.gcd a m=1
 · exact QO w r0 xa u0 r1 OE u1 r2 xm u2 a ee m da hla dee Fw dm hlm hm0 hg
 · exact QN w r0 xa u0 r1 OE u1 r2 xm u2 a ee m da hla dee Fw dm hlm hm0 hg
end Go.Proofs.YtnilonnkcbkdmaaGreatDoor
namespace Go.Proofs.YtnilonnkcbkdmaaGreatDoor
open Go.ChangeShapes Go.WideShapes Go.ChangeAt Go.RowKit
set_option linter.unusedVariables false
set_option maxHeartbeats 2000000
set_option maxRecDepth 100000 in
theorem Eh (os:Os) (started:os.Started) (H:Type) (enc:TypeId × Value→H) :
  ReturnsInHanded {} Tryz.checked os 4 .any (fun w args=>(Rows.gcdModuloSpec.pre enc Tryz.prog Tryz.f4 [] false w args∧laidMetH Tryz.prog gQ w)∧sizedMet enc Tryz.prog Tryz.f4 (OpenSpec.ofChange Rows.gcdModuloSpec) false w args)
   (Rows.gcdModuloSpec.post enc Tryz.prog Tryz.f4 false true false false):=by
 refine returnsInHanded_of_change_and (C:=Tryz.checked) (X:=fun w _=>laidMetH Tryz.prog gQ w) (fun _ _ _ hh h=>h.of_heap hh) own started (by kernel_rfl) Tryz.func4
  (ChangeSpec.witness_shaped (enc:=enc) (C:=Tryz.checked) (os:=os) (X:=fun w _=>laidMetH Tryz.prog gQ w) false (World.doorLaid Tryz.prog 400 os) #[.slice none 0 0,.slice none 0 0,.slice none 0 0] 8 rfl (World.shaped_of_RefB (by kernel_rfl) (by kernel_rfl)) (by kernel_rfl) (by kernel_rfl) (by kernel_rfl) (jf os _)) ?_
 intro W base args ds gs before hval0 hW _ _ hL _
 have hval:∀ (j:Nat) t v,Tryz.f4.params[j]?=some t→args[j]?=some v→Value.okWide Tryz.prog W .any base t v:=hval0
 have hW':=hW
 obtain ⟨p,q,qX,hV,rfl,hfz,hnd⟩:=hW
 have hlt:∀ x∈p++q,x.block<W.heap.size:=fun x hx=>hW'.lt x hx
 have hA:DataW.TrodAll enc Tryz.prog W 0 (fun _=>true) true Tryz.f4.params.toList args.toList ds p:=qX
 rw [Tryz.params4] at hA hval
 clear qX hval0
 obtain ⟨v0,vs0,d0,ds0,p0,q0,yu,rfl,rfl,h0,r0⟩:=trodAll_cons hA
 obtain ⟨v1,vs1,d1,ds1,p1,q1,mh,rfl,rfl,h1,r1⟩:=trodAll_cons r0
 obtain ⟨v2,vs2,d2,ds2,p2,q2,I7,rfl,rfl,h2,r2⟩:=trodAll_cons r1
 obtain ⟨hn1,rfl,rfl⟩:=trodAll_nil r2
 subst hn1
 subst I7
 subst mh
 obtain rfl:args=#[v0,v1,v2]:=by cases args;simp_all
 obtain ⟨rfl,rfl⟩:=trodVars_none hV
 obtain ⟨Tj,u0⟩:=dS (hval 0 22 v0 rfl rfl) h0 (fun x hx=>hlt x (by simp [hx]))
 obtain ⟨Wo,u1⟩:=dS (hval 1 22 v1 rfl rfl) h1 (fun x hx=>hlt x (by simp [hx]))
 obtain ⟨xs2,u2⟩:=dS (hval 2 22 v2 rfl rfl) h2 (fun x hx=>hlt x (by simp [hx]))
 refine (Jr W _ _ u0 _ _ u1 _ _ u2).mono fun e W' ⟨he,hB⟩=>?_
 subst he
 exact ⟨_,rfl,jg hW' rfl (by rw [Tryz.params4];decide +kernel) rfl rfl rfl rfl hB⟩
theorem Js:Rows.GcdModuloSaid :=
 OpenClaim.holds_of_wide 4 Tryz.f4 rfl rfl rfl rfl rfl rfl rfl ⟨rfl,rfl,rfl,rfl,rfl⟩ rfl rfl rfl rfl rfl (by kernel_rfl) Tryz.func4 (by kernel_rfl)
  (of_decide_eq_true (by kernel_rfl)) (by unfold Func.isWrapper;first | (rw [if_pos (by decide +kernel)];kernel_rfl) | (rw [if_neg (by decide +kernel)];exact ⟨rfl,rfl⟩))
  (fun os started H enc _=>Eh os started H enc)
theorem gcdModulo_holds:Rows.GcdModuloCardSaid :=
 Claim7.holds_tied_plain_at .later [] [.wider] true Rows.gcdModuloCard.stood.harness false
  Js (fun _ h=>by cases h) (by kernel_rfl) (fun _ h=>by cases h) gcdModulo_row_tie rfl ⟨rfl,rfl⟩ (by kernel_rfl) rfl
  (fun f fn hf hfn=>by
   obtain rfl:f = 4 := Option.some.inj ((show Tryz.prog.funcNamed "ziggurat/zigguratlaw07.GcdModulo" = some 4 by kernel_rfl).symm.trans hf) |>.symm
   obtain rfl:fn=Tryz.f4 := (Option.some.inj (Tryz.func4.symm.trans hfn)).symm
   exact ⟨by kernel_rfl,fun j t ht=>by
    rw [Tryz.params4] at ht
    have hm:t∈[22,22,22]:=by simpa using Array.mem_of_getElem? ht
    have hall:([22,22,22].all fun u=>!Tryz.prog.wantsStandIn u)=true:=by kernel_rfl
    exact (show Tryz.prog.wantsStandIn t=false by simpa using List.all_eq_true.1 hall t hm)⟩)
  (by kernel_rfl)
end Go.Proofs.YtnilonnkcbkdmaaGreatDoor
