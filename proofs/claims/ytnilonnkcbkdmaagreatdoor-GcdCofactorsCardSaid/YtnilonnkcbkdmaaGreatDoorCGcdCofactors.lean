/- GcdCofactors, and what it leans on beyond the base. -/
import Derived.Test.YtnilonnkcbkdmaaGreatDoorBac
import Derived.Test.YtnilonnkcbkdmaaGreatDoorBad
import Derived.Test.YtnilonnkcbkdmaaGreatDoorBai
import Derived.Test.YtnilonnkcbkdmaaGreatDoorBag
import Derived.Test.YtnilonnkcbkdmaaGreatDoorBah
import Derived.Test.YtnilonnkcbkdmaaGreatDoorBak
import Derived.Test.YtnilonnkcbkdmaaGreatDoorBao
import Derived.Test.YtnilonnkcbkdmaaGreatDoorBae
import Derived.Test.YtnilonnkcbkdmaaGreatDoorBap
import Derived.Test.YtnilonnkcbkdmaaGreatDoorBar
import Derived.Test.YtnilonnkcbkdmaaGreatDoorBas
import Derived.Test.YtnilonnkcbkdmaaGreatDoorBbc
import Derived.Test.YtnilonnkcbkdmaaGreatDoorBbb
import Derived.Test.YtnilonnkcbkdmaaGreatDoorBbh
import Derived.Test.YtnilonnkcbkdmaaGreatDoorBbe
import Derived.Test.YtnilonnkcbkdmaaGreatDoorBbj
import Derived.Test.YtnilonnkcbkdmaaGreatDoorBbk
import Derived.WalkKit
import Derived.ProofKit
import Derived.OpenShut
import Derived.JoinedCond
import Derived.RegionTactic
import Derived.LoopTactic
import Derived.BigQuiet
import Derived.Deep.QuietTactic
import Derived.Outline
import Derived.SevenTiedAt
import Derived.LaidMore
import Derived.Stop.Joined
import Derived.JoinedOf
import Derived.JoinedAt
import Derived.Lib.SmallJoins
import Derived.Laws.IdiomArrays
import Derived.WideKeyPair
import Derived.WideKeyArr2
import Derived.Deep.RegionHeld3

namespace Go.Proofs.YtnilonnkcbkdmaaGreatDoor
set_option linter.all false
open Go.RowKit
set_option maxHeartbeats 400000
theorem kW {n k:Nat} (h1:2^k≤n) (h2:n<2^(k+1)):bS n=k+1:=by
 have:=gU h1
 have:=dB h2
 omega
end Go.Proofs.YtnilonnkcbkdmaaGreatDoor
namespace Go.Proofs.YtnilonnkcbkdmaaGreatDoor
set_option linter.all false
open Go.RowKit
set_option maxHeartbeats 400000
set_option maxRecDepth 100000
def TM (xs:List Nat):Bool:=decide (xs.length≤65536)&&(xs.isEmpty||lb xs (xs.length-1) != 0)
theorem bne_cast (a:Nat):(((a:Nat):Int) != 0)=(a != 0):=by
 rw [Bool.eq_iff_iff,bne_iff_ne,bne_iff_ne];omega
theorem gp (w:World) (v:Value) (xs:List Nat) (k:Int) (hk0:0≤k) (hk1:k≤1000000000) (h:U w v xs) :
  Calls Tryz.prog 13 #[v,.int .i64 k] w fun e w'=>(∃ u,e = .returned u∧Un w' u (dG xs k.toNat))∧Below w.heap.size w w':=by
 have h':=h
 obtain ⟨A,c,rfl,⟨hc,hm⟩,hx,hr⟩:=h
 clear hr
 by_cases hl:(xs.length:Int)≤k
 · have hu:=aW w _ xs h' (by omega)
   have HT:Hid (xs.take k.toNat=xs):=List.take_of_length_le (by omega)
   have hmin:min (xs.length:Int) k=xs.length:=by omega
   go_enter Tryz.func13,Tryz.ntmps13
   go_wp2_with (go_at_call 37;refine hu.mono ?_;rintro e w' ⟨⟨z,rfl,hz⟩,hB⟩)
   go_ret
   exact ⟨⟨_,rfl,by rw [Un,dG,HT.out];exact hz⟩,hB⟩
 · obtain ⟨k,rfl⟩:=Int.eq_ofNat_of_zero_le hk0
   have hu:=aW w _ _ (h'.take (k:=k) (c':=c) (by omega) (by omega)) (by rw [List.length_take];omega)
   have hmin:min (xs.length:Int) (k:Int)=k:=by omega
   go_enter Tryz.func13,Tryz.ntmps13
   go_wp2_with (go_at_call 37;refine hu.mono ?_;rintro e w' ⟨⟨z,rfl,hz⟩,hB⟩)
   go_ret
   exact ⟨⟨_,rfl,by rw [Un,dG,Int.toNat_natCast];exact hz⟩,hB⟩
end Go.Proofs.YtnilonnkcbkdmaaGreatDoor
namespace Go.Proofs.YtnilonnkcbkdmaaGreatDoor
set_option linter.all false
open Go.RowKit
theorem dR (w:World) (v:Value) (xs:List Nat) (k:Int) (h:U w v xs) (hk0:0≤k) (hk1:k≤1000000000) (n:Nat) (hn:dG xs k.toNat=n) :
  Calls Tryz.prog 13 #[v,.int .i64 k] w fun e w'=>∃ u,e = .returned u∧Un w' u n∧Ext w w':=by
 subst hn
 exact (gp w v xs k hk0 hk1 h).mono fun e w' ⟨⟨u,he,hu⟩,hb⟩=>⟨u,he,hu,hb⟩
end Go.Proofs.YtnilonnkcbkdmaaGreatDoor
namespace Go.Proofs.YtnilonnkcbkdmaaGreatDoor
set_option linter.all false
open Go.ChangeShapes Go.WideShapes Go.ChangeAt Go.RowKit
set_option maxRecDepth 100000
theorem laidOut:laidOutB Tryz.prog=true:=by kernel_rfl
theorem jK:Tryz.prog.cellsOf 43 = 1:=by kernel_rfl
abbrev gQ:List (String × DataW Unit):=[("ziggurat/ntt.fields",Rows.laid_ziggurat_ntt_fields)]
theorem jf (os:Os) (args:Array Value):laidMetH Tryz.prog gQ ((World.doorLaid Tryz.prog 400 os).forCall (fun _ _=>0) ⟨#[],args,[]⟩).memory :=
 laidMetH_of_parts3 (fuel:=8) (laidMet_of_run' 8 (by kernel_rfl) (by kernel_rfl)) (by kernel_rfl) (by kernel_rfl)
theorem bP {H:Type} {enc:TypeId × Value→H} {W W':World} {sp:Nat→Bool} (hB:Ext W W'):∀ {ts:List TypeId} {vs:List Value} {ds:List (DataW H)} {ps:List MemPlace},
  (∀ t∈ts,Tryz.prog.readableRec t=true∧t<Tryz.prog.types.size)→DataW.TrodAll enc Tryz.prog W 0 (fun _=>true) true ts vs ds ps→(∀ p∈ps,p.block<W.heap.size)→(∀ p∈ps,sp p.block=true)→DataW.TrodAll enc Tryz.prog W' 0 sp true ts vs ds ps
 | [],[],[],_,_,h,_,_=>h
 | t::_,_::_,_::_,_,hT,⟨p,q,h1,h2,e⟩,hlt,hs=>⟨p,q,
  WideElems.Trod_stays laidOut (hT t (List.mem_cons_self ..)).1 (hT t (List.mem_cons_self ..)).2 h1 (fun x hx=>Below.same hB (hlt x (by rw [e];exact List.mem_append_left _ hx))) (fun x hx=>hs x (by rw [e];exact List.mem_append_left _ hx)),
  bP hB (fun t ht=>hT t (List.mem_cons_of_mem _ ht)) h2 (fun x hx=>hlt x (by rw [e];exact List.mem_append_right _ hx)) (fun x hx=>hs x (by rw [e];exact List.mem_append_right _ hx)),e⟩
theorem jg {H:Type} {enc:TypeId × Value→H} {f:Func} {s:ChangeSpec} {apart fresh handsOn again:Bool} {W W':World} {args:Array Value} {ds gs:List (DataW H)} {before:List MemPlace}
  (hW:DataW.Whole enc Tryz.prog f.params.toList s.vars apart W args.toList ds gs before) (hv:s.vars=[]) (hT:∀ t∈f.params.toList,Tryz.prog.readableRec t=true∧t<Tryz.prog.types.size)
  (hres:f.resultTypes=#[4]) (hfn:(s.fn H (ds++gs)).results=[.lit (.bool true)]) (hfa:(s.fn H (ds++gs)).args=ds) (P8:(s.fn H (ds++gs)).vars=[]) (hB:Ext W W') :
  s.post enc Tryz.prog f apart fresh handsOn again W args (.bool true) W':=by
 have hlt:∀ p∈before,p.block<W.heap.size:=fun p hp=>hW.lt p hp
 have hold:∀ p∈before,(fun b=>decide (b<W.heap.size)) p.block=true:=fun p hp=>by simpa using hlt p hp
 have hres':∀ (b:Nat) (sp:Nat→Bool) (hd:Bool),DataW.TrodAll enc Tryz.prog W' b sp hd f.resultTypes.toList ((Value.bool true).resultList f.resultTypes.size) (s.fn H (ds++gs)).results []:=by
  intro b sp hd
  rw [hres,hfn]
  exact trodAll_mk1 (shut_bool Tryz.underlying4 _)
 have hW2:=hW
 obtain ⟨p,q,hA,hV,hpq,hz,hn⟩:=hW
 rw [hv] at hV
 obtain ⟨_,rfl⟩:=trodVars_none hV
 rw [List.append_nil] at hpq
 subst hpq
 have hargs:∀ sp:Nat→Bool,(∀ p'∈before,sp p'.block=true)→DataW.TrodAll enc Tryz.prog W' 0 sp true f.params.toList args.toList (s.fn H (ds++gs)).args before:=fun sp hs=>by
  rw [hfa];exact bP hB hT hA hlt hs
 have hvars:∀ sp:Nat→Bool,DataW.TrodVars enc Tryz.prog W' sp s.vars (s.fn H (ds++gs)).vars []:=fun sp=>by rw [hv,P8];exact rfl
 refine ⟨ds,gs,before,[],before,[],hW2,hres' _ _ _,hargs _ hold,hvars _,World.keptBut_mono (fun p hp=>⟨hp,?_⟩) (Below.frame hB (·∈before)),fun _=>?_⟩
 · simpa using hp
 · refine ⟨ok_one hres rfl (okWide_bool_mk Tryz.underlying4 _),_,_,([]++before)++[],⟨[]++before,[],trodAll_append (hargs _ (fun _ _=>rfl)) (hres' _ _ _),hvars _,rfl,?_,?_⟩,?_⟩
   · intro b off hp
     have hin:MemPlace.cell b off∈before:=by simpa using hp
     rw [Below.frozen hB (hlt _ hin)]
     exact hz b off hin
   · intro ha
     have:=hn ha
     simpa using this
   · intro p hp _
     simpa using hp
theorem dS {H:Type} {enc:TypeId × Value→H} {W:World} {base:Nat} {v:Value} {d:DataW H} {ps:List MemPlace} (hval:Value.okWide Tryz.prog W .any base 22 v) (h:DataW.Trod enc Tryz.prog W 0 (fun _=>true) true 22 v d ps)
  (hlt:∀ p∈ps,p.block<W.heap.size):∃ xs:List Nat,U W v xs:=by
 obtain ⟨a0,len,cap,rfl⟩:=okWide_slice Tryz.underlying22 hval
 obtain ⟨fuel,hf⟩:=h
 rcases open_ints Tryz.underlying22 Tryz.underlying43 jK hf with ⟨hcs,hx⟩ | ⟨a,len',cap',zs,hcs,_,hl,hm,hz,hx,hcell,hwz⟩
 · simp [Value.cells] at hcs
   obtain ⟨rfl,rfl,rfl⟩:=hcs
   exact ⟨[],U.mE _ _ _⟩
 · simp [Value.cells] at hcs
   obtain ⟨rfl,rfl,rfl⟩:=hcs
   simp only [if_true] at hz
   have hlen:((zs.take len).map Int.toNat).length=len:=by simp;omega
   have hb:∀ z∈zs,0≤z∧z<4294967296:=fun z hzz=>by have:=bounds_u32 (hwz z hzz);omega
   refine ⟨(zs.take len).map Int.toNat,some a,cap,by rw [hlen],⟨by rw [hlen];exact hl,by rw [hlen];unfold maxLen at hm;omega⟩,?_,fun h0=>⟨a,rfl,?_,fun j hj=>?_⟩⟩
   · intro x hx'
     obtain ⟨z,hz1,rfl⟩:=List.mem_map.1 hx'
     have:=hb z (List.mem_of_mem_take hz1)
     omega
   · rw [hlen] at h0
     have hc:=hcell 0 (by omega)
     rw [fJ] at hc
     unfold World.cell? at hc
     rcases Nat.lt_or_ge a.block W.heap.size with h | h
     · exact h
     · rw [Array.getElem?_eq_none h] at hc;cases hc
   · rw [hlen] at hj
     have hjz:j<zs.length:=by omega
     have e:lb ((zs.take len).map Int.toNat) j=(zs.getD j 0).toNat:=by
      simp [lb,hj,hjz]
     rw [hcell j hjz,e]
     have hmem:zs.getD j 0∈zs:=by simp [hjz]
     have:=hb _ hmem
     rw [show (((zs.getD j 0).toNat:Nat):Int)=zs.getD j 0 by omega]
end Go.Proofs.YtnilonnkcbkdmaaGreatDoor
namespace Go.Proofs.YtnilonnkcbkdmaaGreatDoor
set_option linter.all false
open Go.RowKit
set_option maxHeartbeats 400000
set_option maxRecDepth 100000
theorem aaA (w:World) (v:Value) (xs:List Nat) (h:U w v xs) :
  Calls Tryz.prog 70 #[v] w fun e w'=>e = .returned (.bool (TM xs))∧w=w':=by
 obtain ⟨A,c,rfl,⟨hc,hm⟩,hx,hr⟩:=h
 by_cases hlen:xs.length≤65536
 · rcases Nat.eq_zero_or_pos xs.length with h0 | h0
   · obtain rfl:=List.eq_nil_of_length_eq_zero h0
     go_enter Tryz.func70,Tryz.ntmps70
     go_wp2
     go_ret
     exact ⟨rfl,rfl⟩
   · obtain ⟨ad,rfl,hb,hcell⟩:=hr h0
     have hc1:=hcell (xs.length-1) (by omega)
     have hne:(((xs.length:Nat):Int)==0)=false:=by rw [beq_eq_false_iff_ne];omega
     have hres:TM xs=(lb xs (xs.length-1) != 0):=by
      unfold TM
      have:xs.isEmpty=false:=by cases xs<;>simp_all
      simp [hlen,this]
     have HR:=Lib.hid hres
     clear hres
     go_enter Tryz.func70,Tryz.ntmps70
     go_wp2
     go_ret
     exact ⟨by rw [HR.out,← bne_cast];rfl,rfl⟩
 · have hres:TM xs=false:=by unfold TM;simp [hlen]
   have hne:(((xs.length:Nat):Int)==0)=false:=by rw [beq_eq_false_iff_ne];omega
   have HR:=Lib.hid hres
   clear hres
   go_enter Tryz.func70,Tryz.ntmps70
   go_wp2
   go_ret
   exact ⟨by rw [HR.out];rfl,rfl⟩
theorem iw (w:World) (v:Value) (n:Nat) (i:Int) (hi0 : -9000000000000≤i) (hi1:i≤9000000000000) (h:Un w v n) :
  Calls Tryz.prog 67 #[v,.int .i64 i] w fun e w'=>e = .returned (.int .u32 (fQ n i:Nat))∧w=w':=by
 obtain ⟨A,c,rfl,⟨hc,hm⟩,hx,hr⟩:=h
 by_cases h0:i<0
 · have HF:Hid (fQ n i=0):=if_pos h0
   go_enter Tryz.func67,Tryz.ntmps67
   go_wp2
   go_ret
   exact ⟨by rw [HF.out];rfl,rfl⟩
 · obtain ⟨k,rfl⟩:=Int.eq_ofNat_of_zero_le (show 0≤i by omega)
   have hkn:decide (((k:Nat):Int)<0)=false:=by rw [decide_eq_false_iff_not];omega
   have HB:Hid (fQ n (k:Int)=n/2^k%2):=by rw [Hid,fQ,if_neg h0,Int.toNat_natCast]
   by_cases h1:k/32<(limbs n).length
   · obtain ⟨ad,rfl,hb,hcell⟩:=hr (by omega)
     have hc1:=hcell (k/32) h1
     have HL:=Lib.hid (aQ hx (k/32))
     have HF:Hid (fQ n (k:Int)=lb (limbs n) (k/32)/2^(k%32)%2):=by
      rw [Hid,HB.out,mZ n k]
     clear HB
     go_enter Tryz.func67,Tryz.ntmps67
     go_wp2_with (fail)
     go_loop [5,6] (fun x j=>∃ m:Nat,m≤k%32∧j = .int .i64 m∧x = .int .u32 (lb (limbs n) (k/32)/2^m:Nat)) (fun x j=>k%32-(intOf j).toNat)
     case atStart=>exact ⟨0,Nat.zero_le _,rfl,by simp⟩
     case round =>
      obtain ⟨m,hm2,rfl,rfl⟩:=hrel
      have hq:lb (limbs n) (k/32)/2^m<4294967296:=Nat.lt_of_le_of_lt (Nat.div_le_self _ _) HL.out
      by_cases hlt:m<k%32
      · have HN:Hid (((lb (limbs n) (k/32)/2^m:Nat):Int)/2=((lb (limbs n) (k/32)/2^(m+1):Nat):Int)):=by
         rw [Hid,Nat.pow_succ,← Nat.div_div_eq_div_mul];omega
        generalize lb (limbs n) (k/32)/2^m=X at *
        go_wp2
        go_round
        case rel=>exact ⟨m+1,by omega,by go_num,by rw [HN.out]⟩
        case measure=>simp [intOf];omega
      · obtain rfl:m=k%32:=by omega
        generalize lb (limbs n) (k/32)/2^(k%32)=X at *
        go_wp2
        go_ret
        exact ⟨by rw [HF.out];rfl,rfl⟩
   · have HF:Hid (fQ n (k:Int)=0):=by rw [Hid,HB.out];exact rH n k (by omega)
     go_enter Tryz.func67,Tryz.ntmps67
     go_wp2
     go_ret
     exact ⟨by rw [HF.out];rfl,rfl⟩
theorem gy {t j:Nat} (h0:t/2^j=0) (h1:0<j→t/2^(j-1)≠0):bS t=j:=by
 have a:t<2^j:=by
  rcases Nat.lt_or_ge t (2^j) with h | h
  · exact h
  · have:=Nat.div_pos h (Nat.two_pow_pos j);omega
 rcases Nat.eq_zero_or_pos j with rfl | hj
 · have:t=0:=by simpa using a
   subst this;rfl
 · have b:2^(j-1)≤t:=by
    rcases Nat.lt_or_ge t (2^(j-1)) with h | h
    · exact absurd (Nat.div_eq_of_lt h) (h1 hj)
    · exact h
   have:=kW b (by rwa [show j-1+1=j by omega])
   omega
theorem gz (w:World) (v:Value) (n:Nat) (h:Un w v n) (hl:(limbs n).length≤1000000000) :
  Calls Tryz.prog 66 #[v] w fun e w'=>e = .returned (.int .i64 (bS n:Nat))∧∃ m,w'=w.drewN m:=by
 obtain ⟨A,c,rfl,⟨hc,hm⟩,hx,hr⟩:=h
 by_cases h0:n=0
 · subst h0
   have hz:limbs 0=[]:=bf
   rw [hz]
   clear hz hr hx hm hl hc
   have HF:Hid (bS 0=0):=rfl
   go_enter Tryz.func66,Tryz.ntmps66
   go_wp2
   go_ret
   exact ⟨by rw [HF.out];rfl,0,rfl⟩
 · have HF:=Lib.hid (jY n h0)
   have hlen:0<(limbs n).length:=by rw [eG h0];simp
   obtain ⟨ad,rfl,hb,hcell⟩:=hr hlen
   have hc1:=hcell ((limbs n).length-1) (by omega)
   have hne:(((limbs n).length:Int)==0)=false:=by rw [beq_eq_false_iff_ne];omega
   have hL:=aQ hx ((limbs n).length-1)
   have HL:=Lib.hid hL
   clear hL
   go_enter Tryz.func66,Tryz.ntmps66
   go_wp2_with (fail)
   go_region
   go_wp2_with (fail)
   clear hc1 hcell hr
   generalize ht:lb (limbs n) ((limbs n).length-1)=T at *
   clear ht
   go_loop [3,4] (fun m x=>∃ j:Nat,j≤32∧m = .int .i64 j∧x = .int .u32 (T/2^j:Nat)∧Hid (0<j→T/2^(j-1)≠0)) (fun m x=>33-(intOf m).toNat)
   case atStart=>exact ⟨0,Nat.zero_le _,rfl,by simp,fun h=>absurd h (by omega)⟩
   case round =>
    obtain ⟨j,hj,rfl,rfl,HZ⟩:=hrel
    have hq:T/2^j<4294967296:=Nat.lt_of_le_of_lt (Nat.div_le_self _ _) HL.out
    have HN:Hid (((T/2^j:Nat):Int)/2=((T/2^(j+1):Nat):Int)):=by
     rw [Hid,Nat.pow_succ,← Nat.div_div_eq_div_mul];omega
    rcases Nat.eq_zero_or_pos (T/2^j) with h0 | h0
    · have HT:Hid (bS T=j):=gy h0 HZ.out
      rw [h0]
      clear h0 hq HN
      go_wp2
      go_ret
      exact ⟨by rw [HF.out,HT.out];exact mJ (by omega),1,rfl⟩
    · have HP:Hid (T/2^j≠0):=by rw [Hid];omega
      have HJ:Hid (j<32):=by
       rw [Hid]
       rcases Nat.lt_or_ge j 32 with h | h
       · exact h
       · have:=Nat.pow_le_pow_right (n:=2) (by decide) h
         have h2:=HL.out
         exact absurd (Nat.div_eq_of_lt (Nat.lt_of_lt_of_le (by simpa using h2) this)) HP.out
      have TF:Hid (T/2^j≠0):=HP
      obtain ⟨X,hX⟩:∃ X,T/2^j=X:=⟨_,rfl⟩
      rw [hX] at HN HP hq h0
      rw [hX]
      clear hX
      go_wp2
      go_round
      case rel=>exact ⟨j+1,by have:=HJ.out;omega,by go_num,by rw [HN.out],fun _=>by rw [Nat.add_sub_cancel];exact TF.out⟩
      case measure=>have:=HJ.out;simp [intOf];omega
end Go.Proofs.YtnilonnkcbkdmaaGreatDoor
namespace Go.Proofs.YtnilonnkcbkdmaaGreatDoor
set_option linter.all false
theorem iK {n m a b:Nat} (h1:(limbs n).length≤a) (h2:(limbs m).length≤b):(limbs (n+m)).length≤max a b+1:=by
 apply fM
 have g1:=Nat.lt_of_lt_of_le (bO h1) (Nat.pow_le_pow_right (show 0<4294967296 by decide) (Nat.le_max_left a b))
 have g2:=Nat.lt_of_lt_of_le (bO h2) (Nat.pow_le_pow_right (show 0<4294967296 by decide) (Nat.le_max_right a b))
 rw [Nat.pow_succ]
 omega
theorem Nt {n:Nat} (h:(limbs n).length≤65536):TM (limbs n)=true:=by
 unfold TM
 by_cases h0:n=0
 · subst h0;rw [bf];rfl
 · have:=IA h0
   rw [decide_eq_true h,Bool.true_and,Bool.or_eq_true]
   right
   rw [bne_iff_ne]
   exact this
end Go.Proofs.YtnilonnkcbkdmaaGreatDoor
namespace Go.Proofs.YtnilonnkcbkdmaaGreatDoor
set_option linter.all false
open Go.ChangeShapes Go.WideShapes Go.ChangeAt Go.RowKit
set_option maxRecDepth 100000
set_option maxHeartbeats 400000
theorem iE (xs:List Nat) (k:Nat) (hx:∀ x∈xs,x<4294967296):Ltl (dG xs k) k:=by
 have h:=lM (xs.take k) (fun x h=>hx x (List.mem_of_mem_take h))
 refine Nat.lt_of_lt_of_le h (Nat.pow_le_pow_right (by decide) ?_)
 rw [List.length_take];omega
end Go.Proofs.YtnilonnkcbkdmaaGreatDoor
namespace Go.Proofs.YtnilonnkcbkdmaaGreatDoor
set_option linter.all false
open Go.RowKit
set_option maxHeartbeats 400000
set_option maxRecDepth 100000 in
set_option maxHeartbeats 8000000 in
theorem gX (w:World) (va vb:Value) (dL bs:List Nat) (na nb:Nat) (ha:U w va dL) (hb:U w vb bs) (hna:dL.length=na) (hnb:bs.length=nb) (hn1:na≤1000) (hn2:nb≤1000) :
  Calls Tryz.prog 68 #[va,vb] w fun e w'=>(∃ u,e = .returned u∧Un w' u (val dL*val bs))∧Ext w w':=by
 obtain ⟨A,ca,rfl,⟨hca,hma⟩,hxl,Lv⟩:=id ha
 obtain ⟨A2,cb,rfl,⟨hcb,hmb⟩,hyl,Lx⟩:=id hb
 have HL:Hid (dL.length=na∧bs.length=nb):=⟨hna,hnb⟩
 have Zb:=Lib.hid (fun k=>eT bs k)
 have Zc:=Lib.hid (fun k=>eT dL k)
 have HT2:Hid (bs.take nb=bs∧dL.take na=dL):=⟨by rw [← hnb];exact List.take_length,by rw [← hna];exact List.take_length⟩
 rw [hna] at hca hma Lv ⊢
 rw [hnb] at hcb hmb Lx ⊢
 obtain ⟨n,hnn⟩:∃ n,na+nb=n:=⟨_,rfl⟩
 have hni:(na:Int)+(nb:Int)=(n:Int):=by omega
 obtain ⟨i0,hi,hz0,hz1,hz2⟩:=info_parts iT
 obtain ⟨B,hB⟩:∃ B,w.heap.size=B:=⟨_,rfl⟩
 have pW:=Lib.hid hB
 clear ha hb hna hnb
 go_enter Tryz.func68,Tryz.ntmps68
 go_wp2_with (at_make;refine wpList_make_full _ rfl _ _ 22 rfl w.heap.size 43 i0 (.int .u32 0) 1 Tryz.underlying22 hi hz0 hz1 _ _ _ _ n rfl rfl (by omega) (by omega) (by rw [hz2];omega) (by unfold maxLen;omega) (Nat.le_refl _) ?_;intro w1 hown hgrow)
 have ho0:Own w1 w.heap.size (.slice (some ⟨w.heap.size,0,none⟩) n n) (List.replicate n 0):=by
  have:=Own.zeros hown
  rwa [List.length_replicate] at this
 have hE0:Ext w w1:=Below.grown (Ext.refl w) hgrow (Nat.le_refl _) (fun _ h=>by cases h)
 rw [hB] at ho0
 clear hown hgrow hi hz0 hz1 hz2 i0
 have hS0:Hid (Ku bs dL n 0 (List.replicate n 0)):=⟨by simp,fun x hx=>by simp at hx;omega,by simp [bM,val],fun m _=>iR _ _⟩
 go_wp2
 go_loopw [6] (fun t wr=>∃ (i:Nat) (o:List Nat),i≤na∧t = .int .i64 (i:Nat)∧Hid (Ku bs dL n i o)∧Own wr B (.slice (some ⟨B,0,none⟩) n n) o∧Ext w wr) (fun t _=>na-(intOf t).toNat)
 case atStart=>exact ⟨0,_,Nat.zero_le _,rfl,hS0,ho0,hE0⟩
 case round =>
  clear hS0 ho0 hE0
  obtain ⟨i,o,hib,rfl,HO,hown,hE⟩:=hrel
  by_cases hlt:i<na
  · obtain ⟨ad,rfl,hb1,hcell1⟩:=Lv (by omega)
    have hyb:=aQ hxl i
    have hty:=Zc.out i (by rw [HL.out.1];exact hlt)
    obtain ⟨y,wN⟩:∃ y,lb dL i=y:=⟨_,rfl⟩
    rw [wN] at hyb hty
    have HY:=Lib.hid wN
    have LA:Hid (P9 o n i (val o+LB^i*(val (bs.take 0)*y)) 0 o 0):=⟨HO.out.len,HO.out.lt,by decide,by simp [val],fun m _=>rfl⟩
    have vB:Hid (val (dL.take (i+1))=val (dL.take i)+LB^i*y):=hty
    have hno:Hid (lb o (i+nb)=0):=HO.out.out _ (by rw [HL.out.2];exact Nat.le_refl _)
    clear wN hty
    go_wp2
    go_loopw [8,7] (fun t s wx=>∃ (j:Nat) (o2:List Nat) (cy:Nat),j≤nb∧t = .int .i64 (j:Nat)∧s = .int .u64 (cy:Nat)∧Hid (P9 o n i (val o+LB^i*(val (bs.take j)*y)) j o2 cy)∧Own wx B (.slice (some ⟨B,0,none⟩) n n) o2∧Ext w wx) (fun t _ _=>nb-(intOf t).toNat)
    case atStart=>exact ⟨0,o,0,Nat.zero_le _,rfl,rfl,LA,hown,hE⟩
    case round =>
     clear LA hown hE
     obtain ⟨j,o2,cy,hj,rfl,rfl,HW,hown,hE⟩:=hrel
     by_cases hjt:j<nb
     · obtain ⟨IB,rfl,hb2,hcell2⟩:=Lx (by omega)
       have hc0:=(hE.cell (p:=ad.add i) (by rw [aM];exact hb1)).trans (hcell1 i hlt)
       rw [HY.out] at hc0
       have hc1:=(hE.cell (p:=IB.add j) (by rw [aM];exact hb2)).trans (hcell2 j hjt)
       have hxb:=aQ hyl j
       have htk:=Zb.out j (by rw [HL.out.2];exact hjt)
       have hcz:=hown.rd.2 (i+j) (by rw [HW.out.len];omega)
       have hf:=hown.frozen' (i+j)
       have hzb:=aQ HW.out.lt (i+j)
       have hcy:=HW.out.BC
       obtain ⟨x,wM⟩:∃ x,lb bs j=x:=⟨_,rfl⟩
       rw [wM] at hc1 hxb htk
       obtain ⟨z,hzz⟩:∃ z,lb o2 (i+j)=z:=⟨_,rfl⟩
       rw [hzz] at hcz hzb
       obtain ⟨t,ht⟩:∃ t,x*y=t:=⟨_,rfl⟩
       have ht1:t≤18446744065119617025:=by rw [← ht];exact IC hxb hyb
       have hti:(y:Int)*(x:Int)=(t:Int):=by rw [← ht,Int.natCast_mul,Int.mul_comm]
       obtain ⟨u,hu⟩:∃ u,cy+(t+z)=u:=⟨_,rfl⟩
       obtain ⟨s,hs⟩:∃ s,u%4294967296=s:=⟨_,rfl⟩
       obtain ⟨d,hd⟩:∃ d,u/4294967296=d:=⟨_,rfl⟩
       obtain ⟨hm,hsb,hdb,hub,htz⟩:=pX t z cy s d u ht1 hzb hcy hu hs hd
       have hst:=HW.out.step (by omega) t s d (by rw [hzz];exact hm) hsb hdb
       rw [Nat.add_assoc (val o),Nat.pow_add,Nat.mul_assoc,← Nat.mul_add,← ht,← Nat.mul_assoc,← Nat.add_mul,← htk] at hst
       have HST:=Lib.hid hst
       have hown2:=hown.set' (i+j) s
       have hE2:=hE.setCell (p:=⟨B,i+j,none⟩) (by rw [pW.out];exact Nat.le_refl _) (.int .u32 (s:Nat))
       have q1:IntKind.u64.wrap (t:Int)=(t:Int):=by rw [IntKind.wrap_u64];omega
       have q2:IntKind.u64.wrap ((t:Int)+(z:Int))=(t:Int)+(z:Int):=by rw [IntKind.wrap_u64];omega
       have q3:(t:Int)+(z:Int)+(cy:Int)=(u:Int):=by omega
       have q4:IntKind.u64.wrap (u:Int)=(u:Int):=by rw [IntKind.wrap_u64];omega
       have q5:IntKind.u32.wrap (u:Int)=(s:Int):=by rw [IntKind.wrap_u32];omega
       have q6:(u:Int)%4294967296=(s:Int):=by omega
       have q7:(u:Int)/4294967296=(d:Int):=by omega
       have q8:IntKind.u64.wrap (x:Int)=(x:Int):=by rw [IntKind.wrap_u64];omega
       have q9:IntKind.u64.wrap (y:Int)=(y:Int):=by rw [IntKind.wrap_u64];omega
       have q10:IntKind.u64.wrap (z:Int)=(z:Int):=by rw [IntKind.wrap_u64];omega
       have q11:(u:Int)%18446744073709551616=(u:Int):=by omega
       have q12:(t:Int)%18446744073709551616=(t:Int):=by omega
       have q13:((t:Int)+(z:Int))%18446744073709551616=(t:Int)+(z:Int):=by omega
       have q14:IntKind.i64.wrap ((i:Int)+(j:Int))=(i:Int)+(j:Int):=IntWalk.i64_in _ (by omega)
       have q15:(0:Int)≤(i:Int)+(j:Int):=by omega
       have q16:(i:Int)+(j:Int)<(n:Int):=by omega
       have TN:((i:Int)+(j:Int)).toNat=i+j:=by omega
       have q18:(0:Int)≤(i:Int):=by omega
       have q19:(i:Int)<(na:Int):=by omega
       have q20:(0:Int)≤(j:Int):=by omega
       have q21:(j:Int)<(nb:Int):=by omega
       clear hst htk wM hzz ht hu hs hd hm HW hxb hzb ht1 hcy hown2 hE2
       have HOWN:=Lib.hid hown
       have HEE:=Lib.hid hE
       clear hown hE
       go_wp2_with (fail)
       go_quiet (fail)
       have hown2:=(HOWN.out.ext (eU wr nq)).set' (i+j) s
       have hE2:=(HEE.out.below (eU wr nq)).setCell (p:=⟨B,i+j,none⟩) (by rw [pW.out];exact Nat.le_refl _) (.int .u32 (s:Nat))
       go_wp2
       go_roundw
       case rel=>exact ⟨j+1,_,d,by omega,by go_num,rfl,HST,hown2,hE2⟩
       case measure=>simp [intOf];omega
     · obtain rfl:j=nb:=by omega
       have hcz:=hown.rd.2 (i+j) (by rw [HW.out.len];omega)
       have hf:=hown.frozen' (i+j)
       have hl0:lb o2 (i+j)=0:=by rw [HW.out.out _ (Nat.le_refl _)];exact hno.out
       have hws:=oV o2 (i+j) cy (by rw [HW.out.len];omega)
       rw [hl0,Nat.mul_zero,Nat.add_zero,HW.out.val,HT2.out.1] at hws
       have sP:(Value.int .u32 (lb o2 (i+j):Nat)) = .int .u32 0:=by rw [hl0];rfl
       rw [sP] at hcz
       have vC:=HW.out.BC
       have q5:IntKind.u32.wrap (cy:Int)=(cy:Int):=by rw [IntKind.wrap_u32];omega
       have q6:(cy:Int)%4294967296=(cy:Int):=by omega
       have hown2:=hown.set' (i+j) cy
       have hE2:=hE.setCell (p:=⟨B,i+j,none⟩) (by rw [pW.out];exact Nat.le_refl _) (.int .u32 (cy:Nat))
       have HST:Hid (Ku bs dL n (i+1) (o2.set (i+j) cy)):=by
        refine ⟨by rw [List.length_set];exact HW.out.len,gm HW.out.lt vC,?_,fun m hm=>?_⟩
        · rw [hws,vB.out,Nat.mul_add,← HO.out.val,Nat.mul_left_comm]
        · rw [HL.out.2] at hm
          rw [dD _ (by omega),HW.out.out _ (by omega)]
          exact HO.out.out m (by rw [HL.out.2];omega)
       have g12:(i:Int)+(j:Int)<(n:Int):=by omega
       have g13:i+j<n:=by omega
       clear hl0 hws sP hown hE HW vC vB hno
       go_wp2
       go_roundw
       case rel=>exact ⟨i+1,_,by omega,by go_num,HST,hown2,hE2⟩
       case measure=>simp [intOf];omega
  · obtain rfl:i=na:=by omega
    have hu:=hown.lW HO.out.lt (by rw [HO.out.len];omega)
    have hvv:=HO.out.val
    rw [HT2.out.2,Nat.mul_comm] at hvv
    have HV:=Lib.hid hvv
    have hol:=HO.out.len
    clear hown HO hvv
    go_wp2_with (fail)
    refine (aW _ _ _ hu (by omega)).mono ?_
    rintro e w2 ⟨⟨u,rfl,hu2⟩,hB2⟩
    rw [HV.out] at hu2
    have hE2:=hE.below hB2
    have HF:Hid (∃ u',Ending.returned u = .returned u'∧Un w2 u' (val dL*val bs)):=⟨_,rfl,hu2⟩
    clear hu2 hu hB2
    go_wp2
    go_ret
    exact ⟨HF.out,hE2⟩
theorem jJ (w:World) (va vb:Value) (n m k:Nat) (ha:Un w va n) (hb:Un w vb m) (hn:(limbs n).length≤398) (hm:(limbs m).length≤398) (hk:n*m=k) :
  Calls Tryz.prog 68 #[va,vb] w fun e w'=>∃ u,e = .returned u∧Un w' u k∧Ext w w':=by
 refine (gX w va vb _ _ _ _ ha hb rfl rfl (by omega) (by omega)).mono ?_
 rw [aG,aG,hk]
 rintro e w' ⟨⟨u,h1,h2⟩,h3⟩
 exact ⟨u,h1,h2,h3⟩
attribute [local go_sem ↓] dH
attribute [local go_sem] aT
theorem aY {w0 w:World} (hB:Below w0.heap.size w0 w) {v:Value} {o:List Nat} (hown:Own w w0.heap.size v o) (z:Int) (x:Nat) (hz:z=(x:Int)) (hx:x<4294967296) (hlen:o.length+1≤35184372088832) :
  ∃ v' w',(Builtin.append_ #[22,22] 22 #[v,.slice (some ⟨w.heap.size,0,none⟩) 1 1]).run Tryz.prog (w.alloc (.cells #[.int .u32 z] 43)) = .ok v' w'∧Own w' w0.heap.size v' (o++[x])∧Below w0.heap.size w0 w':=by
 subst hz
 have hu:U (w.alloc (.cells #[.int .u32 (x:Int)] 43)) (.slice (some ⟨w.heap.size,0,none⟩) 1 1) [x]:=xJ w [x] (by simpa using hx) (by simp)
 have hB1:=hB.alloc hB.size (.cells #[.int .u32 (x:Int)] 43)
 obtain ⟨v',w',hrun,ho,hg⟩:=bE _ w0.heap.size _ o (World.ownsRow.alloc hown _) _ _ hu (by simpa using hlen) hB1.size
 exact ⟨v',w',hrun,ho,hB1.grown hg hB1.size (fun j e=>(World.ownsRow.lt hown j e).1)⟩
set_option maxRecDepth 100000 in
theorem nU (w:World) (v u:Value) (xs ys:List Nat) (h:U w v xs) (g:U w u ys) (hl:xs.length≤100000000) (hl2:ys.length≤100000000) :
  Calls Tryz.prog 30 #[v,u] w fun e w'=>(∃ z,e = .returned z∧U w' z (limbs (val xs+val ys)))∧Below w.heap.size w w':=by
 obtain ⟨A,c,rfl,⟨hc,hm⟩,hx,hr⟩:=id h
 obtain ⟨A2,c2,rfl,⟨hc2,hm2⟩,hx2,hr2⟩:=id g
 clear hr hr2
 go_enter Tryz.func30,Tryz.ntmps30
 go_wp2_with (fail)
 have hown0:Own (w.alloc (.cells #[] 43)) w.heap.size (.slice (some ⟨w.heap.size,0,none⟩) 0 0) []:=World.ownsRow_lit w #[] 0 (Nat.le_refl _) (Nat.zero_le _) rfl
 have hB0:Below w.heap.size w (w.alloc (.cells #[] 43)):=(Below.refl _ _).alloc (Nat.le_refl _) _
 go_loopw [5,6,7] (fun s cv i wr=>∃ (k cy:Nat) (o:List Nat),k≤max xs.length ys.length+1∧i = .int .i64 k∧cv = .int .u64 cy∧Hid (iW xs ys k o cy)∧Own wr w.heap.size s o∧Below w.heap.size w wr) (fun _ _ i _=>max xs.length ys.length+2-(intOf i).toNat)
 case atStart=>exact ⟨0,0,[],Nat.zero_le _,rfl,rfl,iW.start xs ys,hown0,hB0⟩
 case round =>
  clear hown0 hB0
  obtain ⟨k,cy,o,hk,rfl,rfl,HO,hown,hB⟩:=hrel
  by_cases hd1:k≤xs.length
  · have h1:=aQ hx k
    have h2:=aQ hx2 k
    have h3:=HO.out.carry
    have hlen:=HO.out.len
    obtain ⟨x1,hx1⟩:∃ x1,(lb xs k+lb ys k+cy)%4294967296=x1:=⟨_,rfl⟩
    obtain ⟨c1,hc1⟩:∃ c1,(lb xs k+lb ys k+cy)/4294967296=c1:=⟨_,rfl⟩
    have kL:Hid (iW xs ys (k+1) (o++[x1]) c1):=by rw [Hid,← hx1,← hc1];exact HO.out.step hx hx2
    obtain ⟨v',w',hrun,hown',hB'⟩:=aY hB hown ((((lb xs k:Nat):Int)+((lb ys k:Nat):Int)+(cy:Int))%4294967296) x1 (by rw [← hx1];omega) (by rw [← hx1];exact Nat.mod_lt _ (by decide)) (by omega)
    obtain ⟨t1,t2,t3⟩:=aU hrun
    have hk2:k+1≤max xs.length ys.length+1:=by omega
    have kM:Hid ((((lb xs k:Nat):Int)+((lb ys k:Nat):Int)+(cy:Int))/4294967296=(c1:Int)):=by rw [Hid,← hc1];omega
    clear hrun hx1 hc1 hlen
    go_wp2_with (fail)
    refine (aC _ _ xs _ k rfl (h.below hB)).mono ?_
    rintro e w' ⟨rfl,rfl⟩
    go_wp2_with (fail)
    refine (aC _ _ ys _ k rfl (g.below hB)).mono ?_
    rintro e w' ⟨rfl,rfl⟩
    go_wp2_with (fail)
    go_roundw
    case rel=>exact ⟨k+1,c1,_,hk2,by go_num,by rw [kM.out],kL,hown',hB'⟩
    case measure=>simp [intOf];omega
  · by_cases hd2:k≤ys.length
    · have h1:=aQ hx k
      have h2:=aQ hx2 k
      have h3:=HO.out.carry
      have hlen:=HO.out.len
      obtain ⟨x1,hx1⟩:∃ x1,(lb xs k+lb ys k+cy)%4294967296=x1:=⟨_,rfl⟩
      obtain ⟨c1,hc1⟩:∃ c1,(lb xs k+lb ys k+cy)/4294967296=c1:=⟨_,rfl⟩
      have kL:Hid (iW xs ys (k+1) (o++[x1]) c1):=by rw [Hid,← hx1,← hc1];exact HO.out.step hx hx2
      obtain ⟨v',w',hrun,hown',hB'⟩:=aY hB hown ((((lb xs k:Nat):Int)+((lb ys k:Nat):Int)+(cy:Int))%4294967296) x1 (by rw [← hx1];omega) (by rw [← hx1];exact Nat.mod_lt _ (by decide)) (by omega)
      obtain ⟨t1,t2,t3⟩:=aU hrun
      have hk2:k+1≤max xs.length ys.length+1:=by omega
      have kM:Hid ((((lb xs k:Nat):Int)+((lb ys k:Nat):Int)+(cy:Int))/4294967296=(c1:Int)):=by rw [Hid,← hc1];omega
      clear hrun hx1 hc1 hlen
      go_wp2_with (fail)
      refine (aC _ _ xs _ k rfl (h.below hB)).mono ?_
      rintro e w' ⟨rfl,rfl⟩
      go_wp2_with (fail)
      refine (aC _ _ ys _ k rfl (g.below hB)).mono ?_
      rintro e w' ⟨rfl,rfl⟩
      go_wp2_with (fail)
      go_roundw
      case rel=>exact ⟨k+1,c1,_,hk2,by go_num,by rw [kM.out],kL,hown',hB'⟩
      case measure=>simp [intOf];omega
    · have hlen:=HO.out.len
      obtain ⟨j,rfl⟩:∃ j,k=j+1:=⟨k-1,by omega⟩
      have HV:Hid (val o=val xs+val ys):=HO.out.done hx hx2 (by omega) (by omega)
      have hu:=hown.lW HO.out.lt (by omega)
      have hol:o.length≤1000000000:=by omega
      clear hlen
      go_wp2_with (fail)
      refine (aW _ _ _ hu hol).mono ?_
      rintro e w' ⟨⟨z,rfl,hz⟩,hB2⟩
      rw [HV.out] at hz
      replace hB:=Below.trans hB (Below.mono hB2 hB.size)
      go_wp2
      go_ret
      exact ⟨⟨_,rfl,hz⟩,hB⟩
attribute [local go_sem ↓] dH
attribute [local go_sem] aT
set_option maxRecDepth 100000 in
theorem TP (w:World) (v u:Value) (n m:Nat) (h:Un w v n) (g:Un w u m) (hl:(limbs n).length≤100000000) (hl2:(limbs m).length≤100000000) (b:Bool) (hb:decide (m≤n)=b) (d:Nat) (hd:n-m=d) :
  Calls Tryz.prog 38 #[v,u] w fun e w'=>(∃ z,e = .returned (.tuple #[z,.bool b])∧Un w' z d)∧Below w.heap.size w w':=by
 obtain ⟨A,c,rfl,⟨hc,hm⟩,hx,hr⟩:=id h
 obtain ⟨A2,c2,rfl,⟨hc2,hm2⟩,hx2,hr2⟩:=id g
 clear hr hr2
 rcases Nat.lt_or_ge n m with hlt | hge
 · have HF:Hid (bQ (val (limbs n):Nat) (val (limbs m):Nat) = -1):=by rw [Hid,aG,aG];exact fu (Int.ofNat_lt.2 hlt)
   obtain rfl:d=0:=by omega
   obtain rfl:b=false:=by rw [← hb,decide_eq_false_iff_not];omega
   clear hb hd hlt
   go_enter Tryz.func38,Tryz.ntmps38
   go_wp2_with (fail)
   refine (dK _ _ _ _ _ h g (by omega) (by omega)).mono ?_
   rintro e w' ⟨rfl,rfl⟩
   rw [HF.out]
   go_wp2
   go_ret2
   exact ⟨⟨_,rfl,uA _⟩,Below.refl _ _⟩
 · have HF:Hid (0≤bQ (val (limbs n):Nat) (val (limbs m):Nat)):=by
    rw [Hid,aG,aG]
    rcases Nat.lt_or_ge m n with h1 | h1
    · rw [fG (Int.ofNat_lt.2 h1)];decide
    · obtain rfl:n=m:=by omega
      rw [fZ];decide
   obtain rfl:b=true:=by rw [← hb,decide_eq_true_iff];omega
   have HD:=Lib.hid hd
   have HG:=Lib.hid hge
   have hll:=gV hge
   clear hb hd hge
   obtain ⟨K,hK⟩:∃ K,bQ (val (limbs n):Nat) (val (limbs m):Nat)=K:=⟨_,rfl⟩
   have hK0:0≤K:=by rw [← hK];exact HF.out
   clear HF
   go_enter Tryz.func38,Tryz.ntmps38
   go_wp2_with (fail)
   refine (dK _ _ _ _ _ h g (by omega) (by omega)).mono ?_
   rintro e w' ⟨rfl,rfl⟩
   rw [hK]
   clear hK
   go_wp2_with (fail)
   have hown0:Own (w.alloc (.cells #[] 43)) w.heap.size (.slice (some ⟨w.heap.size,0,none⟩) 0 0) []:=World.ownsRow_lit w #[] 0 (Nat.le_refl _) (Nat.zero_le _) rfl
   have hB0:Below w.heap.size w (w.alloc (.cells #[] 43)):=(Below.refl _ _).alloc (Nat.le_refl _) _
   go_loopw [6,7,8] (fun s cv i wr=>∃ (k cy:Nat) (o:List Nat),k≤(limbs n).length∧i = .int .i64 k∧cv = .int .u64 cy∧Hid (mK (limbs n) (limbs m) k o cy)∧Own wr w.heap.size s o∧Below w.heap.size w wr) (fun _ _ i _=>(limbs n).length-(intOf i).toNat)
   case atStart=>exact ⟨0,0,[],Nat.zero_le _,rfl,rfl,mK.start _ _,hown0,hB0⟩
   case round =>
    clear hown0 hB0
    obtain ⟨k,cy,o,hk,rfl,rfl,HO,hown,hB⟩:=hrel
    by_cases hd1:k<(limbs n).length
    · have h1:=aQ hx k
      have h2:=aQ hx2 k
      have h3:=HO.out.carry
      have hlen:=HO.out.len
      obtain ⟨x1,hx1⟩:∃ x1,(4294967296+lb (limbs n) k-lb (limbs m) k-cy)%4294967296=x1:=⟨_,rfl⟩
      obtain ⟨c1,hc1⟩:∃ c1,1-(4294967296+lb (limbs n) k-lb (limbs m) k-cy)/4294967296=c1:=⟨_,rfl⟩
      have kL:Hid (mK (limbs n) (limbs m) (k+1) (o++[x1]) c1):=by rw [Hid,← hx1,← hc1];exact HO.out.step hx hx2
      obtain ⟨v',w',hrun,hown',hB'⟩:=aY hB hown ((4294967296+((lb (limbs n) k:Nat):Int)-((lb (limbs m) k:Nat):Int)-(cy:Int))%4294967296) x1 (by rw [← hx1];omega) (by rw [← hx1];exact Nat.mod_lt _ (by decide)) (by omega)
      obtain ⟨t1,t2,t3⟩:=aU hrun
      have kM:Hid (1-(4294967296+((lb (limbs n) k:Nat):Int)-((lb (limbs m) k:Nat):Int)-(cy:Int))/4294967296=(c1:Int)):=by rw [Hid,← hc1];omega
      clear hrun hx1 hc1 hlen
      go_wp2_with (fail)
      refine (aC _ _ (limbs n) _ k rfl (U.below h hB)).mono ?_
      rintro e w' ⟨rfl,rfl⟩
      go_wp2_with (fail)
      refine (aC _ _ (limbs m) _ k rfl (U.below g hB)).mono ?_
      rintro e w' ⟨rfl,rfl⟩
      go_wp2_with (fail)
      go_roundw
      case rel=>exact ⟨k+1,c1,_,by omega,by go_num,by rw [kM.out],kL,hown',hB'⟩
      case measure=>simp [intOf];omega
    · have hlen:=HO.out.len
      obtain rfl:k=(limbs n).length:=by omega
      have HV:Hid (val o=d):=by rw [Hid,HO.out.done hll (by rw [aG,aG];exact HG.out),aG,aG];exact HD.out
      have hu:=hown.lW HO.out.lt (by omega)
      have hol:o.length≤1000000000:=by omega
      clear hlen
      go_wp2_with (fail)
      refine (aW _ _ _ hu hol).mono ?_
      rintro e w' ⟨⟨z,rfl,hz⟩,hB2⟩
      have hz2:Un w' z d:=by rw [← HV.out];exact hz
      replace hB:=Below.trans hB (Below.mono hB2 hB.size)
      clear hz
      go_wp2
      go_ret2
      exact ⟨⟨_,rfl,hz2⟩,hB⟩
end Go.Proofs.YtnilonnkcbkdmaaGreatDoor
namespace Go.Proofs.YtnilonnkcbkdmaaGreatDoor
set_option linter.all false
open Go.RowKit
theorem aaF (w:World) (v:Value) (xs:List Nat) (h:U w v xs) (b:Bool) (hb:TM xs=b) :
  Calls Tryz.prog 70 #[v] w fun e w'=>e = .returned (.bool b)∧Ext w w' :=
 (aaA w v xs h).mono fun e w' ⟨he,hw⟩=>⟨by rw [he,hb],by rw [← hw];exact Ext.refl w⟩
theorem kC (w:World) (v:Value) (n:Nat) (h:Un w v n) (hl:(limbs n).length≤1000000000) (k:Int) (hk:((bS n:Nat):Int)=k) :
  Calls Tryz.prog 66 #[v] w fun e w'=>e = .returned (.int .i64 k)∧Ext w w' :=
 (gz w v n h hl).mono fun e w' ⟨he,m,hw⟩=>⟨by rw [he,hk],by rw [hw];exact eU w m⟩
theorem l8 (w:World) (v:Value) (n:Nat) (i:Int) (h:Un w v n) (hi0 : -9000000000000≤i) (hi1:i≤9000000000000) (k:Int) (hk:((fQ n i:Nat):Int)=k) :
  Calls Tryz.prog 67 #[v,.int .i64 i] w fun e w'=>e = .returned (.int .u32 k)∧Ext w w' :=
 (iw w v n i hi0 hi1 h).mono fun e w' ⟨he,hw⟩=>⟨by rw [he,hk],by rw [← hw];exact Ext.refl w⟩
theorem wm (w:World) (v u:Value) (n m:Nat) (h:Un w v n) (g:Un w u m) (hm:(limbs n).length≤100000000) (hm2:(limbs m).length≤100000000) (s:Nat) (hs:n+m=s) :
  Calls Tryz.prog 30 #[v,u] w fun e w'=>∃ z,e = .returned z∧Un w' z s∧Ext w w':=by
 subst hs
 have:=nU w v u _ _ h g hm hm2
 rw [aG,aG] at this
 exact this.mono fun e w' ⟨⟨z,he,hz⟩,hb⟩=>⟨z,he,hz,hb⟩
theorem TR (w:World) (v u:Value) (n m:Nat) (h:Un w v n) (g:Un w u m) (hm:(limbs n).length≤100000000) (hm2:(limbs m).length≤100000000) (b:Bool) (hb:decide (m≤n)=b) (d:Nat) (hd:n-m=d) :
  Calls Tryz.prog 38 #[v,u] w fun e w'=>∃ z,e = .returned (.tuple #[z,.bool b])∧Un w' z d∧Ext w w' :=
 (TP w v u n m h g hm hm2 b hb d hd).mono fun e w' ⟨⟨z,he,hz⟩,hb⟩=>⟨z,he,hz,hb⟩
end Go.Proofs.YtnilonnkcbkdmaaGreatDoor
namespace Go.Proofs.YtnilonnkcbkdmaaGreatDoor
set_option linter.all false
open Go.RowKit
set_option maxHeartbeats 400000
theorem kP (w:World) (va vb:Value) (n m k:Nat) (ha:Un w va n) (hb:Un w vb m) (hn:(limbs n).length≤398) (hm:(limbs m).length≤398) (hk:n*m=k) :
  Calls Tryz.prog 28 #[va,vb] w fun e w'=>∃ u,e = .returned u∧Un w' u k∧Ext w w':=by
 have h0:=Lib.hid (jJ w va vb n m k ha hb hn hm hk)
 clear ha hb hn hm hk
 go_enter Tryz.func28,Tryz.ntmps28
 go_wp2_with (fail)
 refine h0.out.mono ?_
 rintro e w1 ⟨u,rfl,hu,hB⟩
 have HF:Hid (∃ u',Ending.returned u = .returned u'∧Un w1 u' k∧Ext w w1):=⟨_,rfl,hu,hB⟩
 clear hu hB h0
 go_wp2
 go_ret
 exact HF.out
section
variable {L:List Oper} {S:World→Prop} {K:List (Nat × Value)→World→Prop} {k:Bool} {i m d:Nat} {o:Oper} {x:Operand} {r:List (Bool × Nat × Nat)} {l:List (Nat × Value)} {w:World} {b b1 b2:Bool} {A A1 A2:Option Addr} {n c n1 c1 n2 c2:Nat}
end
theorem Qa {z:Int} {K:Nat} (hz:Sz z K) (hK:K≤65536):(TM (limbs z.natAbs)&&!(decide (z<0)&&decide ((limbs z.natAbs).length=0)))=true:=by
 rw [Nt (Nat.le_trans hz hK),Bool.true_and,Bool.not_eq_true']
 by_cases h:z<0
 · have:z.natAbs≠0:=by omega
   rw [eG this]
   simp
 · rw [decide_eq_false h,Bool.false_and]
end Go.Proofs.YtnilonnkcbkdmaaGreatDoor
namespace Go.Proofs.YtnilonnkcbkdmaaGreatDoor
set_option linter.all false
open Go.RowKit
set_option maxHeartbeats 400000
set_option maxRecDepth 100000
attribute [local go_sem ↓] dH
attribute [local go_sem] aT
theorem bL (w:World) (v:Value) (xs:List Nat) (h:U w v xs) (hlen:xs.length≤1000000000) :
  Calls Tryz.prog 37 #[v] w fun e w'=>(∃ u,e = .returned u∧U w' u (limbs (val xs))∧d9 w.heap.size u)∧Below w.heap.size w w':=by
 have h':=h
 obtain ⟨A,c,rfl,⟨hc,hm⟩,hx,hr⟩:=h
 go_enter Tryz.func37,Tryz.ntmps37
 go_wp2
 go_loop [3] (fun n=>∃ k:Nat,k≤xs.length∧n = .int .i64 k∧Hid (∀ j,k≤j→j<xs.length→lb xs j=0)) (fun n=>(intOf n).toNat)
 case atStart=>exact ⟨xs.length,Nat.le_refl _,rfl,fun j h1 h2=>by omega⟩
 case round =>
  obtain ⟨k,hk,rfl,hz⟩:=hrel
  have hfin:(0<k→lb xs (k-1)≠0)→∃ v' w',(Builtin.append_ #[22,22] 22 #[.slice (some ⟨w.heap.size,0,none⟩) 0 0,.slice A k c]).run Tryz.prog (w.alloc (.cells #[] 43)) = .ok v' w'∧(U w' v' (limbs (val xs))∧d9 w.heap.size v')∧Below w.heap.size w w':=fun h2=>by
   have hB:Below w.heap.size w (w.alloc (.cells #[] 43)):=(Below.refl _ _).alloc (Nat.le_refl _) _
   have hown:Own (w.alloc (.cells #[] 43)) w.heap.size (.slice (some ⟨w.heap.size,0,none⟩) 0 0) []:=World.ownsRow_lit w #[] 0 (Nat.le_refl _) (Nat.zero_le _) rfl
   have hu:U w (.slice A k c) (xs.take k):=h'.take hk (by omega)
   have htl:(xs.take k).length=k:=by simp;omega
   obtain ⟨v',w',hrun,ho,hg⟩:=bE _ w.heap.size _ [] hown _ _ (hu.below hB) (by rw [htl];simp;omega) hB.size
   refine ⟨v',w',hrun,?_,hB.grown hg hB.size (fun j e=>by cases e;exact Nat.le_refl _)⟩
   refine ⟨?_,ho.fr⟩
   rw [iJ xs k hx hk hz.out h2]
   rw [List.nil_append] at ho
   exact ho.lW (fun x hx'=>hx x (List.mem_of_mem_take hx')) (by rw [htl];omega)
  rcases Nat.eq_zero_or_pos k with rfl | h0
  · obtain ⟨v',w',hrun,HU,HB⟩:=hfin (fun h=>absurd h (by omega))
    obtain ⟨t1,t2,t3⟩:=aU hrun
    clear hfin hrun
    go_wp2
    go_ret
    exact ⟨⟨_,rfl,HU⟩,HB⟩
  · obtain ⟨ad,rfl,hb,hcell⟩:=hr (by omega)
    have hc1:=hcell (k-1) (by omega)
    by_cases hx0:lb xs (k-1)=0
    · have ht:((((lb xs (k-1):Nat)):Int)==0)=true:=by rw [hx0];rfl
      have HX:=Lib.hid hx0
      clear hx0 hfin
      go_wp2
      go_round
      case rel=>exact ⟨k-1,by omega,by go_num,fun j h1 h2=>by
       rcases Nat.lt_or_ge j k with h3 | h3
       · have:j=k-1:=by omega
         subst this;exact HX.out
       · exact hz.out j h3 h2⟩
      case measure=>simp [intOf];omega
    · have ht:((((lb xs (k-1):Nat)):Int)==0)=false:=by rw [beq_eq_false_iff_ne];omega
      obtain ⟨v',w',hrun,HU,HB⟩:=hfin (fun _=>hx0)
      obtain ⟨t1,t2,t3⟩:=aU hrun
      clear hfin hrun hx0
      go_wp2
      go_ret
      exact ⟨⟨_,rfl,HU⟩,HB⟩
set_option maxRecDepth 100000 in
theorem gB (w:World) (v u:Value) (xs ys:List Nat) (h:U w v xs) (g:U w u ys) (hl:xs.length≤100000000) (hl2:ys.length≤100000000) :
  Calls Tryz.prog 30 #[v,u] w fun e w'=>(∃ z,e = .returned z∧U w' z (limbs (val xs+val ys))∧d9 w.heap.size z)∧Below w.heap.size w w':=by
 obtain ⟨A,c,rfl,⟨hc,hm⟩,hx,hr⟩:=id h
 obtain ⟨A2,c2,rfl,⟨hc2,hm2⟩,hx2,hr2⟩:=id g
 clear hr hr2
 go_enter Tryz.func30,Tryz.ntmps30
 go_wp2_with (fail)
 have hown0:Own (w.alloc (.cells #[] 43)) w.heap.size (.slice (some ⟨w.heap.size,0,none⟩) 0 0) []:=World.ownsRow_lit w #[] 0 (Nat.le_refl _) (Nat.zero_le _) rfl
 have hB0:Below w.heap.size w (w.alloc (.cells #[] 43)):=(Below.refl _ _).alloc (Nat.le_refl _) _
 go_loopw [5,6,7] (fun s cv i wr=>∃ (k cy:Nat) (o:List Nat),k≤max xs.length ys.length+1∧i = .int .i64 k∧cv = .int .u64 cy∧Hid (iW xs ys k o cy)∧Own wr w.heap.size s o∧Below w.heap.size w wr) (fun _ _ i _=>max xs.length ys.length+2-(intOf i).toNat)
 case atStart=>exact ⟨0,0,[],Nat.zero_le _,rfl,rfl,iW.start xs ys,hown0,hB0⟩
 case round =>
  clear hown0 hB0
  obtain ⟨k,cy,o,hk,rfl,rfl,HO,hown,hB⟩:=hrel
  by_cases hd1:k≤xs.length
  · have h1:=aQ hx k
    have h2:=aQ hx2 k
    have h3:=HO.out.carry
    have hlen:=HO.out.len
    obtain ⟨x1,hx1⟩:∃ x1,(lb xs k+lb ys k+cy)%4294967296=x1:=⟨_,rfl⟩
    obtain ⟨c1,hc1⟩:∃ c1,(lb xs k+lb ys k+cy)/4294967296=c1:=⟨_,rfl⟩
    have kL:Hid (iW xs ys (k+1) (o++[x1]) c1):=by rw [Hid,← hx1,← hc1];exact HO.out.step hx hx2
    obtain ⟨v',w',hrun,hown',hB'⟩:=aY hB hown ((((lb xs k:Nat):Int)+((lb ys k:Nat):Int)+(cy:Int))%4294967296) x1 (by rw [← hx1];omega) (by rw [← hx1];exact Nat.mod_lt _ (by decide)) (by omega)
    obtain ⟨t1,t2,t3⟩:=aU hrun
    have hk2:k+1≤max xs.length ys.length+1:=by omega
    have kM:Hid ((((lb xs k:Nat):Int)+((lb ys k:Nat):Int)+(cy:Int))/4294967296=(c1:Int)):=by rw [Hid,← hc1];omega
    clear hrun hx1 hc1 hlen
    go_wp2_with (fail)
    refine (aC _ _ xs _ k rfl (h.below hB)).mono ?_
    rintro e w' ⟨rfl,rfl⟩
    go_wp2_with (fail)
    refine (aC _ _ ys _ k rfl (g.below hB)).mono ?_
    rintro e w' ⟨rfl,rfl⟩
    go_wp2_with (fail)
    go_roundw
    case rel=>exact ⟨k+1,c1,_,hk2,by go_num,by rw [kM.out],kL,hown',hB'⟩
    case measure=>simp [intOf];omega
  · by_cases hd2:k≤ys.length
    · have h1:=aQ hx k
      have h2:=aQ hx2 k
      have h3:=HO.out.carry
      have hlen:=HO.out.len
      obtain ⟨x1,hx1⟩:∃ x1,(lb xs k+lb ys k+cy)%4294967296=x1:=⟨_,rfl⟩
      obtain ⟨c1,hc1⟩:∃ c1,(lb xs k+lb ys k+cy)/4294967296=c1:=⟨_,rfl⟩
      have kL:Hid (iW xs ys (k+1) (o++[x1]) c1):=by rw [Hid,← hx1,← hc1];exact HO.out.step hx hx2
      obtain ⟨v',w',hrun,hown',hB'⟩:=aY hB hown ((((lb xs k:Nat):Int)+((lb ys k:Nat):Int)+(cy:Int))%4294967296) x1 (by rw [← hx1];omega) (by rw [← hx1];exact Nat.mod_lt _ (by decide)) (by omega)
      obtain ⟨t1,t2,t3⟩:=aU hrun
      have hk2:k+1≤max xs.length ys.length+1:=by omega
      have kM:Hid ((((lb xs k:Nat):Int)+((lb ys k:Nat):Int)+(cy:Int))/4294967296=(c1:Int)):=by rw [Hid,← hc1];omega
      clear hrun hx1 hc1 hlen
      go_wp2_with (fail)
      refine (aC _ _ xs _ k rfl (h.below hB)).mono ?_
      rintro e w' ⟨rfl,rfl⟩
      go_wp2_with (fail)
      refine (aC _ _ ys _ k rfl (g.below hB)).mono ?_
      rintro e w' ⟨rfl,rfl⟩
      go_wp2_with (fail)
      go_roundw
      case rel=>exact ⟨k+1,c1,_,hk2,by go_num,by rw [kM.out],kL,hown',hB'⟩
      case measure=>simp [intOf];omega
    · have hlen:=HO.out.len
      obtain ⟨j,rfl⟩:∃ j,k=j+1:=⟨k-1,by omega⟩
      have HV:Hid (val o=val xs+val ys):=HO.out.done hx hx2 (by omega) (by omega)
      have hu:=hown.lW HO.out.lt (by omega)
      have hol:o.length≤1000000000:=by omega
      clear hlen
      go_wp2_with (fail)
      refine (bL _ _ _ hu hol).mono ?_
      rintro e w' ⟨⟨z,rfl,hz,hf⟩,hB2⟩
      have hf2:Hid (d9 w.heap.size z):=hf.mono hB.size
      clear hf
      rw [HV.out] at hz
      replace hB:=Below.trans hB (Below.mono hB2 hB.size)
      go_wp2
      go_ret
      exact ⟨⟨_,rfl,hz,hf2.out⟩,hB⟩
set_option maxRecDepth 100000 in
theorem gD (w:World) (v u:Value) (n m:Nat) (h:Un w v n) (g:Un w u m) (hl:(limbs n).length≤100000000) (hl2:(limbs m).length≤100000000) (b:Bool) (hb:decide (m≤n)=b) (d:Nat) (hd:n-m=d) :
  Calls Tryz.prog 38 #[v,u] w fun e w'=>(∃ z,e = .returned (.tuple #[z,.bool b])∧Un w' z d∧d9 w.heap.size z)∧Below w.heap.size w w':=by
 obtain ⟨A,c,rfl,⟨hc,hm⟩,hx,hr⟩:=id h
 obtain ⟨A2,c2,rfl,⟨hc2,hm2⟩,hx2,hr2⟩:=id g
 clear hr hr2
 rcases Nat.lt_or_ge n m with hlt | hge
 · have HF:Hid (bQ (val (limbs n):Nat) (val (limbs m):Nat) = -1):=by rw [Hid,aG,aG];exact fu (Int.ofNat_lt.2 hlt)
   obtain rfl:d=0:=by omega
   obtain rfl:b=false:=by rw [← hb,decide_eq_false_iff_not];omega
   clear hb hd hlt
   go_enter Tryz.func38,Tryz.ntmps38
   go_wp2_with (fail)
   refine (dK _ _ _ _ _ h g (by omega) (by omega)).mono ?_
   rintro e w' ⟨rfl,rfl⟩
   rw [HF.out]
   go_wp2
   go_ret2
   exact ⟨⟨_,rfl,uA _,d9.mE _ _ _⟩,Below.refl _ _⟩
 · have HF:Hid (0≤bQ (val (limbs n):Nat) (val (limbs m):Nat)):=by
    rw [Hid,aG,aG]
    rcases Nat.lt_or_ge m n with h1 | h1
    · rw [fG (Int.ofNat_lt.2 h1)];decide
    · obtain rfl:n=m:=by omega
      rw [fZ];decide
   obtain rfl:b=true:=by rw [← hb,decide_eq_true_iff];omega
   have HD:=Lib.hid hd
   have HG:=Lib.hid hge
   have hll:=gV hge
   clear hb hd hge
   obtain ⟨K,hK⟩:∃ K,bQ (val (limbs n):Nat) (val (limbs m):Nat)=K:=⟨_,rfl⟩
   have hK0:0≤K:=by rw [← hK];exact HF.out
   clear HF
   go_enter Tryz.func38,Tryz.ntmps38
   go_wp2_with (fail)
   refine (dK _ _ _ _ _ h g (by omega) (by omega)).mono ?_
   rintro e w' ⟨rfl,rfl⟩
   rw [hK]
   clear hK
   go_wp2_with (fail)
   have hown0:Own (w.alloc (.cells #[] 43)) w.heap.size (.slice (some ⟨w.heap.size,0,none⟩) 0 0) []:=World.ownsRow_lit w #[] 0 (Nat.le_refl _) (Nat.zero_le _) rfl
   have hB0:Below w.heap.size w (w.alloc (.cells #[] 43)):=(Below.refl _ _).alloc (Nat.le_refl _) _
   go_loopw [6,7,8] (fun s cv i wr=>∃ (k cy:Nat) (o:List Nat),k≤(limbs n).length∧i = .int .i64 k∧cv = .int .u64 cy∧Hid (mK (limbs n) (limbs m) k o cy)∧Own wr w.heap.size s o∧Below w.heap.size w wr) (fun _ _ i _=>(limbs n).length-(intOf i).toNat)
   case atStart=>exact ⟨0,0,[],Nat.zero_le _,rfl,rfl,mK.start _ _,hown0,hB0⟩
   case round =>
    clear hown0 hB0
    obtain ⟨k,cy,o,hk,rfl,rfl,HO,hown,hB⟩:=hrel
    by_cases hd1:k<(limbs n).length
    · have h1:=aQ hx k
      have h2:=aQ hx2 k
      have h3:=HO.out.carry
      have hlen:=HO.out.len
      obtain ⟨x1,hx1⟩:∃ x1,(4294967296+lb (limbs n) k-lb (limbs m) k-cy)%4294967296=x1:=⟨_,rfl⟩
      obtain ⟨c1,hc1⟩:∃ c1,1-(4294967296+lb (limbs n) k-lb (limbs m) k-cy)/4294967296=c1:=⟨_,rfl⟩
      have kL:Hid (mK (limbs n) (limbs m) (k+1) (o++[x1]) c1):=by rw [Hid,← hx1,← hc1];exact HO.out.step hx hx2
      obtain ⟨v',w',hrun,hown',hB'⟩:=aY hB hown ((4294967296+((lb (limbs n) k:Nat):Int)-((lb (limbs m) k:Nat):Int)-(cy:Int))%4294967296) x1 (by rw [← hx1];omega) (by rw [← hx1];exact Nat.mod_lt _ (by decide)) (by omega)
      obtain ⟨t1,t2,t3⟩:=aU hrun
      have kM:Hid (1-(4294967296+((lb (limbs n) k:Nat):Int)-((lb (limbs m) k:Nat):Int)-(cy:Int))/4294967296=(c1:Int)):=by rw [Hid,← hc1];omega
      clear hrun hx1 hc1 hlen
      go_wp2_with (fail)
      refine (aC _ _ (limbs n) _ k rfl (U.below h hB)).mono ?_
      rintro e w' ⟨rfl,rfl⟩
      go_wp2_with (fail)
      refine (aC _ _ (limbs m) _ k rfl (U.below g hB)).mono ?_
      rintro e w' ⟨rfl,rfl⟩
      go_wp2_with (fail)
      go_roundw
      case rel=>exact ⟨k+1,c1,_,by omega,by go_num,by rw [kM.out],kL,hown',hB'⟩
      case measure=>simp [intOf];omega
    · have hlen:=HO.out.len
      obtain rfl:k=(limbs n).length:=by omega
      have HV:Hid (val o=d):=by rw [Hid,HO.out.done hll (by rw [aG,aG];exact HG.out),aG,aG];exact HD.out
      have hu:=hown.lW HO.out.lt (by omega)
      have hol:o.length≤1000000000:=by omega
      clear hlen
      go_wp2_with (fail)
      refine (bL _ _ _ hu hol).mono ?_
      rintro e w' ⟨⟨z,rfl,hz,hf⟩,hB2⟩
      have hf2:Hid (d9 w.heap.size z):=hf.mono hB.size
      clear hf
      have hz2:Un w' z d:=by rw [← HV.out];exact hz
      replace hB:=Below.trans hB (Below.mono hB2 hB.size)
      clear hz
      go_wp2
      go_ret2
      exact ⟨⟨_,rfl,hz2,hf2.out⟩,hB⟩
set_option maxRecDepth 100000 in
theorem gF (w:World) (v:Value) (n:Nat) (k0:Nat) (hk:k0≤100000000) (h:Un w v n) (hl:(limbs n).length≤100000000) :
  Calls Tryz.prog 39 #[v,.int .i64 (k0:Int)] w fun e w'=>(∃ u,e = .returned u∧Un w' u (n*2^k0)∧d9 w.heap.size u)∧Below w.heap.size w w':=by
 obtain ⟨A,c,rfl,⟨hc,hm⟩,hx,hr⟩:=id h
 clear hr
 obtain ⟨Q,hQ⟩:∃ Q,k0/32=Q:=⟨_,rfl⟩
 obtain ⟨S,hS⟩:∃ S,k0%32=S:=⟨_,rfl⟩
 have eQ:(k0:Int)/32=(Q:Int):=by omega
 have eS:(k0:Int)%32=(S:Int):=by omega
 have HK:Hid (k0=32*Q+S):=by rw [Hid];omega
 have Ih:S<32:=by omega
 have JY:Q≤100000000:=by omega
 go_enter Tryz.func39,Tryz.ntmps39
 go_wp2_with (fail)
 have hown0:Own (w.alloc (.cells #[] 43)) w.heap.size (.slice (some ⟨w.heap.size,0,none⟩) 0 0) []:=World.ownsRow_lit w #[] 0 (Nat.le_refl _) (Nat.zero_le _) rfl
 have hB0:Below w.heap.size w (w.alloc (.cells #[] 43)):=(Below.refl _ _).alloc (Nat.le_refl _) _
 go_loopw [5,8] (fun s i wr=>∃ k:Nat,k≤Q∧i = .int .i64 k∧Own wr w.heap.size s (List.replicate k 0)∧Below w.heap.size w wr) (fun _ i _=>Q-(intOf i).toNat)
 case atStart=>exact ⟨0,Nat.zero_le _,rfl,hown0,hB0⟩
 case round =>
  clear hown0 hB0
  obtain ⟨k,hk1,rfl,hown,hB⟩:=hrel
  by_cases hd1:k<Q
  · obtain ⟨v',w',hrun,hown',hB'⟩:=aY hB hown 0 0 rfl (by decide) (by simp;omega)
    obtain ⟨t1,t2,t3⟩:=aU hrun
    rw [← List.replicate_succ'] at hown'
    clear hrun
    go_wp2
    go_roundw
    case rel=>exact ⟨k+1,by omega,by go_num,hown',hB'⟩
    case measure=>simp [intOf];omega
  · obtain rfl:k=Q:=by omega
    go_wp2_with (fail)
    go_loop [7,9] (fun b i=>∃ j:Nat,j≤S∧i = .int .i64 j∧b = .int .u64 (2^j:Nat)) (fun _ i=>S-(intOf i).toNat)
    case atStart=>exact ⟨0,Nat.zero_le _,rfl,rfl⟩
    case round =>
     obtain ⟨j,hj,rfl,rfl⟩:=hrel
     have hp1:2^j<4294967296:=Nat.lt_of_le_of_lt (Nat.pow_le_pow_right (by decide) (show j≤31 by omega)) (by decide)
     by_cases hd2:j<S
     · have HN:Hid (2*((2^j:Nat):Int)=((2^(j+1):Nat):Int)):=by rw [Hid,Nat.pow_succ];omega
       obtain ⟨X,hX⟩:∃ X,2^j=X:=⟨_,rfl⟩
       rw [hX] at HN hp1
       rw [hX]
       clear hX
       go_wp2
       go_round
       case rel=>exact ⟨j+1,by omega,by go_num,by rw [← HN.out]⟩
       case measure=>simp [intOf];omega
     · obtain rfl:j=S:=by omega
       have hp0:0<2^j:=Nat.two_pow_pos j
       have EH:Hid (n*2^k0=n*2^j*4294967296^k):=by
        rw [Hid,HK.out,pM,Nat.pow_add,Nat.mul_comm (2^(32*k)),← Nat.mul_assoc]
       obtain ⟨P,hP⟩:∃ P,2^j=P:=⟨_,rfl⟩
       rw [hP] at hp0 hp1 EH
       rw [hP]
       clear hP
       go_wp2_with (fail)
       have EI:Hid (jZ (limbs n) k P 0 (List.replicate k 0) 0):=jZ.start _ _ _ hp0
       go_loopw [5,6,10] (fun s cv i wr=>∃ (m cy:Nat) (o:List Nat),m≤(limbs n).length+1∧i = .int .i64 m∧cv = .int .u64 cy∧Hid (jZ (limbs n) k P m o cy)∧Own wr w.heap.size s o∧Below w.heap.size w wr) (fun _ _ i _=>(limbs n).length+1-(intOf i).toNat)
       case atStart=>exact ⟨0,0,_,Nat.zero_le _,rfl,rfl,EI,hown,hB⟩
       case round =>
        clear EI hown hB
        obtain ⟨m,cy,o,hm1,rfl,rfl,HO,hown,hB⟩:=hrel
        have hlen:=HO.out.len
        by_cases hd3:m≤(limbs n).length
        · have h1:=aQ hx m
          have h3:=HO.out.carry
          have h4:lb (limbs n) m*P+cy<4294967296*P:=by
           have:=Nat.mul_le_mul_right P (show lb (limbs n) m+1≤4294967296 by omega)
           rw [Nat.add_mul] at this;omega
          have e1:((lb (limbs n) m:Nat):Int)*(P:Int)=((lb (limbs n) m*P:Nat):Int):=by rw [Int.natCast_mul]
          have OD:((lb (limbs n) m:Nat):Int)*(P:Int)+(cy:Int)<18446744073709551616:=by rw [e1];omega
          have hm4:0≤((lb (limbs n) m:Nat):Int)*(P:Int):=by rw [e1];omega
          obtain ⟨x1,hx1⟩:∃ x1,(lb (limbs n) m*P+cy)%4294967296=x1:=⟨_,rfl⟩
          obtain ⟨c1,hc1⟩:∃ c1,(lb (limbs n) m*P+cy)/4294967296=c1:=⟨_,rfl⟩
          have kL:Hid (jZ (limbs n) k P (m+1) (o++[x1]) c1):=by rw [Hid,← hx1,← hc1];exact HO.out.step hx
          obtain ⟨v',w',hrun,hown',hB'⟩:=aY hB hown ((((lb (limbs n) m:Nat):Int)*(P:Int)+(cy:Int))%4294967296) x1 (by rw [← hx1,e1];omega) (by rw [← hx1];exact Nat.mod_lt _ (by decide)) (by omega)
          obtain ⟨t1,t2,t3⟩:=aU hrun
          have kM:Hid ((((lb (limbs n) m:Nat):Int)*(P:Int)+(cy:Int))/4294967296=(c1:Int)):=by rw [Hid,← hc1,e1];omega
          clear hrun hx1 hc1 hlen e1 h4
          go_wp2_with (fail)
          refine (aC _ _ (limbs n) _ m rfl (U.below h hB)).mono ?_
          rintro e w' ⟨rfl,rfl⟩
          go_wp2_with (fail)
          go_roundw
          case rel=>exact ⟨m+1,c1,_,by omega,by go_num,by rw [kM.out],kL,hown',hB'⟩
          case measure=>simp [intOf];omega
        · obtain rfl:m=(limbs n).length+1:=by omega
          have HV:Hid (val o=n*2^k0):=by rw [Hid,HO.out.done hx (Nat.le_refl _) hp1,aG,EH.out]
          have hu:=hown.lW HO.out.lt (by omega)
          have hol:o.length≤1000000000:=by omega
          clear hlen
          go_wp2_with (fail)
          refine (bL _ _ _ hu hol).mono ?_
          rintro e w' ⟨⟨z,rfl,hz,hf⟩,hB2⟩
          have hf2:Hid (d9 w.heap.size z):=hf.mono hB.size
          clear hf
          have hz2:Un w' z (n*2^k0):=by rw [← HV.out];exact hz
          replace hB:=Below.trans hB (Below.mono hB2 hB.size)
          clear hz
          go_wp2
          go_ret
          exact ⟨⟨_,rfl,hz2,hf2.out⟩,hB⟩
theorem l9 (w:World) (v u:Value) (n m:Nat) (h:Un w v n) (g:Un w u m) (hm:(limbs n).length≤100000000) (hm2:(limbs m).length≤100000000) (s:Nat) (hs:n+m=s) :
  Calls Tryz.prog 30 #[v,u] w fun e w'=>∃ z,e = .returned z∧Un w' z s∧d9 w.heap.size z∧Ext w w':=by
 subst hs
 have:=gB w v u _ _ h g hm hm2
 rw [aG,aG] at this
 exact this.mono fun e w' ⟨⟨z,he,hz,hf⟩,hb⟩=>⟨z,he,hz,hf,hb⟩
theorem iL (w:World) (v u:Value) (n m:Nat) (h:Un w v n) (g:Un w u m) (hm:(limbs n).length≤100000000) (hm2:(limbs m).length≤100000000) (b:Bool) (hb:decide (m≤n)=b) (d:Nat) (hd:n-m=d) :
  Calls Tryz.prog 38 #[v,u] w fun e w'=>∃ z,e = .returned (.tuple #[z,.bool b])∧Un w' z d∧d9 w.heap.size z∧Ext w w' :=
 (gD w v u n m h g hm hm2 b hb d hd).mono fun e w' ⟨⟨z,he,hz,hf⟩,hb⟩=>⟨z,he,hz,hf,hb⟩
theorem iM (w:World) (v:Value) (n:Nat) (k:Nat) (h:Un w v n) (hk1:k≤100000000) (hl:(limbs n).length≤100000000) (s:Nat) (hs:n*2^k=s) :
  Calls Tryz.prog 39 #[v,.int .i64 (k:Int)] w fun e w'=>∃ z,e = .returned z∧Un w' z s∧d9 w.heap.size z∧Ext w w':=by
 subst hs
 exact (gF w v n k hk1 h hl).mono fun e w' ⟨⟨z,he,hz,hf⟩,hb⟩=>⟨z,he,hz,hf,hb⟩
end Go.Proofs.YtnilonnkcbkdmaaGreatDoor
namespace Go.Proofs.YtnilonnkcbkdmaaGreatDoor
set_option linter.all false
open Go.RowKit
set_option maxHeartbeats 400000
set_option maxRecDepth 100000 in
set_option maxHeartbeats 8000000 in
theorem jU (w:World) (va vb:Value) (a b q r:Nat) (bn:Un w va a) (bC:Un w vb b) (hla:(limbs a).length≤200) (hlb:(limbs b).length≤200) (Iq:b≠0) (hq:a/b=q) (hr:a%b=r) :
  Calls Tryz.prog 36 #[va,vb] w fun e w'=>Dv w w' e q r:=by
 unfold Dv
 have HB:=Ext.refl w
 have sN:=oI Iq
 have uZ:=Lib.hid hlb
 obtain ⟨Ab,cb,rfl,hcb⟩:=U.shape (U.aL bC)
 obtain ⟨Aa,ca,rfl,hca⟩:=U.shape (U.aL bn)
 obtain ⟨Lb,Ir⟩:∃ Lb,(limbs b).length=Lb:=⟨_,rfl⟩
 obtain ⟨La,Bh⟩:∃ La,(limbs a).length=La:=⟨_,rfl⟩
 obtain ⟨bl,hbl⟩:∃ bl,bS a=bl:=⟨_,rfl⟩
 rw [Ir] at bC hlb sN ⊢
 rw [Bh] at bn hla ⊢
 have hL0:((Lb:Int)==0)=false:=by rw [beq_eq_false_iff_ne];omega
 have hL1:¬ Lb=0:=by omega
 have gG:bl≤32*La:=by rw [← hbl,← Bh];exact jQ a
 have kG:=Lib.hid (fun W (h:Un W (.slice Aa La ca) a)=>kC W _ a h (by omega) (bl:Int) (by rw [hbl]))
 have kX:=Lib.hid (fun W (j:Nat) (hj:j≤10000) k (hk:a/2^j%2=k) (h:Un W (.slice Aa La ca) a)=>l8 W _ a (j:Int) h (by omega) (by omega) (k:Int) (by rw [mX,hk]))
 have Ew:Hid (oz a b La bl (List.replicate La 0)):=by
  refine ⟨by simp,by simp,?_⟩
  rw [bM,Nat.div_eq_of_lt (show a<2^bl by rw [← hbl];exact dI a),Nat.zero_div,Nat.zero_mul]
 have Dk:Hid (a/2^bl%b=0):=by rw [Hid,Nat.div_eq_of_lt (show a<2^bl by rw [← hbl];exact dI a),Nat.zero_mod]
 have AJ:Hid (∀ o,oz a b La 0 o→val o=q):=fun o h=>by
  have:=h.val
  rwa [Nat.pow_zero,Nat.div_one,Nat.mul_one,hq] at this
 have HDR:Hid (∀ r',a/2^0%b=r'→r'=r):=fun r' h=>by
  rw [Nat.pow_zero,Nat.div_one,hr] at h;exact h.symm
 have HB0:=Lib.hid (show 0<b by omega)
 have jr:Hid (∀ x,x≤2*b+1→(limbs x).length≤300):=fun x h=>by
  have h1:(limbs b).length≤200:=by omega
  have h2:=iK h1 h1
  have h3:(limbs 1).length≤1:=by rw [dA 1 (by decide) (by decide)];simp
  have h4:=iK h2 h3
  exact Nat.le_trans (gV (show x≤b+b+1 by omega)) (Nat.le_trans h4 (by decide))
 obtain ⟨i0,hi,hz0,hz1,hz2⟩:=info_parts iT
 obtain ⟨B,hB⟩:∃ B,w.heap.size=B:=⟨_,rfl⟩
 have pW:=Lib.hid hB
 clear Ir Bh hbl hq hr hcb hca sN Iq
 have ha0:=bn
 have hb0:=bC
 go_enter Tryz.func36,Tryz.ntmps36
 go_wp2_with (at_make;refine wpList_make_full _ rfl _ _ 22 rfl w.heap.size 43 i0 (.int .u32 0) 1 Tryz.underlying22 hi hz0 hz1 _ _ _ _ La rfl rfl (by omega) (by omega) (by rw [hz2];omega) (by unfold maxLen;omega) (Nat.le_refl _) ?_;intro w1 hown hgrow)
 have ho0:Own w1 w.heap.size (.slice (some ⟨w.heap.size,0,none⟩) La La) (List.replicate La 0):=by
  have:=Own.zeros hown
  rwa [List.length_replicate] at this
 have hE0:Ext w w1:=Below.grown (Ext.refl w) hgrow (Nat.le_refl _) (fun _ h=>by cases h)
 rw [hB] at ho0
 replace bn:=U.below (U.aL bn) hE0
 replace bC:=U.below (U.aL bC) hE0
 clear hown hgrow hi hz0 hz1 hz2 i0 HB
 have Iu:=ho0.block.2
 go_wp2_with (fail)
 refine (kG.out _ (U.alloc (U.aL bn) _)).mono ?_
 rintro e w2 ⟨rfl,hB2⟩
 have hR0:Un w2 (.slice (some ⟨w1.heap.size,0,none⟩) 0 0) 0:=U.un (U.mE _ _ _) bf
 have Iw:d9 (B+1) (.slice (some ⟨w1.heap.size,0,none⟩) 0 0):=fun ad n c e=>by
  injection e with e1 _ _
  injection e1 with e1
  subst e1
  exact Iu
 replace ho0:=(ho0.alloc (.cells #[] 43)).ext hB2
 replace hE0:=(hE0.alloc (.cells #[] 43)).below hB2
 replace bn:=U.below (U.alloc (U.aL bn) _) hB2
 replace bC:=U.below (U.alloc (U.aL bC) _) hB2
 clear hB2 Iu kG
 go_wp2
 go_loopw [8,9] (fun s8 s9 wr=>∃ (j:Nat) (z:Int) (R:Nat) (o:List Nat),j≤bl∧s9 = .int .i64 z∧z=(j:Int)-1∧Un wr s8 R∧d9 (B+1) s8∧Hid (a/2^j%b=R)∧Hid (oz a b La j o)∧Own wr B (.slice (some ⟨B,0,none⟩) La La) o∧Ext w wr) (fun _ s9 _=>(intOf s9+1).toNat)
 case atStart=>exact ⟨bl,_,0,_,Nat.le_refl _,rfl,rfl,hR0,Iw,Dk,Ew,ho0,hE0⟩
 case round =>
  clear hR0 Iw Dk Ew ho0 bn bC hE0
  obtain ⟨j,z,R,o,hj,rfl,hz,hR,hf,jG,HO,hown,hE⟩:=hrel
  have bn:=U.below (U.aL ha0) hE
  have bC:=U.below (U.aL hb0) hE
  cases j with
  | zero =>
   obtain rfl:z = -1:=by omega
   obtain rfl:=HDR.out R jG.out
   have hu:=hown.lW HO.out.lt (by rw [HO.out.len];omega)
   have hlo:=HO.out.len
   have Iy:=Lib.hid (iq _ _ o hu (by omega) q (AJ.out o HO.out))
   have Iz:=Lib.hid (fun W (h:Un W u8 R)=>iq W _ (limbs R) h (by have:=jr.out R (by have:=jG.out;have:=Nat.mod_lt (a/2^0) HB0.out;omega);omega) R (aG R))
   clear hu hlo hown HO AJ HDR hz bn bC jr hf
   go_wp2_with (fail)
   refine Iy.out.mono ?_
   rintro e w3 ⟨v3,rfl,hv3,hB3⟩
   replace hR:=U.below (U.aL hR) hB3
   replace hE:=hE.below hB3
   clear hB3 Iy
   go_wp2_with (fail)
   refine (Iz.out _ hR).mono ?_
   rintro e w4 ⟨v4,rfl,hv4,hB4⟩
   replace hE:=hE.below hB4
   have HF:Hid (∃ x' y',Ending.returned (.tuple #[v3,v4,.int .i64 0]) = .returned (.tuple #[x',y',.int .i64 0])∧Un w4 x' q∧Un w4 y' R):=⟨_,_,rfl,U.below (U.aL hv3) hB4,hv4⟩
   clear hB4 Iz hv3 hv4 hR
   go_wp2
   go_ret3
   exact ⟨HF.out,hE⟩
  | succ j =>
   obtain rfl:z=(j:Int):=by omega
   clear hz
   have hwr:=hown.block.2
   have hRb:R<b:=by rw [← jG.out];exact Nat.mod_lt _ HB0.out
   obtain ⟨R1,ku⟩:∃ R1,R*2^1=R1:=⟨_,rfl⟩
   have HR1:=Lib.hid ku
   have hj2:j≤10000:=by omega
   obtain ⟨k,hk⟩:∃ k,j/32=k:=⟨_,rfl⟩
   obtain ⟨s,hs⟩:∃ s,j%32=s:=⟨_,rfl⟩
   obtain ⟨P,hP⟩:∃ P,2^s=P:=⟨_,rfl⟩
   obtain ⟨x,hxe⟩:∃ x,lb o k=x:=⟨_,rfl⟩
   have hkl:k<La:=by omega
   have gH:k<o.length:=by rw [HO.out.len];exact hkl
   have k1:(j:Int)/32=(k:Int):=by omega
   have k2:(j:Int).tdiv 32=(k:Int):=by rw [Int.tdiv_eq_ediv_of_nonneg (Int.natCast_nonneg _)];exact k1
   have k3:(j:Int)%32=(s:Int):=by omega
   have k4:(j:Int).tmod 32=(s:Int):=by rw [Int.tmod_eq_emod_of_nonneg (Int.natCast_nonneg _)];exact k3
   have k5:(0:Int)≤(k:Int):=Int.natCast_nonneg k
   have k6:(k:Int)<(La:Int):=by omega
   have k7:(0:Int)≤(s:Int):=Int.natCast_nonneg s
   have k8:=jB (show k≤1000000 by omega)
   have k9:=jB (show s≤1000000 by omega)
   have hPb:P≤2147483648:=by
    rw [← hP]
    show 2^s≤2^31
    exact Nat.pow_le_pow_right (by decide) (by omega)
   have p1:(2:Int)^s=(P:Int):=by rw [← hP,Int.natCast_pow];rfl
   have p2:=gN (show P<4294967296 by omega)
   have p3:=gP (show P<4294967296 by omega)
   rcases (show a/2^j%2=0∨a/2^j%2=1 by omega) with hbit | hbit
   · obtain ⟨R2,hR2⟩:∃ R2,R1=R2:=⟨_,rfl⟩
     subst hR2
     by_cases hge:b≤R1
     · obtain ⟨d,hd⟩:∃ d,R1-b=d:=⟨_,rfl⟩
       obtain ⟨h1,h2,h3⟩:=HO.out.more HB0.out 0 R k s P x hbit jG.out (by omega) hk hs hP hxe hkl
       obtain ⟨y,hy⟩:∃ y,x+P=y:=⟨_,rfl⟩
       rw [hy] at h1 h2
       have HST:=Lib.hid h2
       have HRR:Hid (a/2^j%b=d):=by rw [Hid,h3];omega
       have q1:(x:Int)+(P:Int)=(y:Int):=by omega
       have q2:=gN h1
       have q3:=gP h1
       have HH:=Lib.hid (And.intro hj2 (And.intro hbit (And.intro hge (And.intro hd (And.intro gH (And.intro hxe (And.intro hRb (And.intro ku (And.intro gG (And.intro hlb hwr))))))))))
       clear hk hs hP h1 h2 h3 hy HO jG hj2 hbit hge hd gH hxe hRb ku hkl hPb gG hlb hwr
       go_wp2_with (fail)
       refine (iM _ _ R 1 hR (by decide) (by have:=HH.out;have:=jr.out R (by omega);omega) R1 HR1.out).mono ?_
       rintro e w3 ⟨v3,rfl,hv3,hf3,hB3⟩
       replace hf3:d9 (B+1) v3:=hf3.mono HH.out.2.2.2.2.2.2.2.2.2.2
       replace bn:=U.below (U.aL bn) hB3
       replace bC:=U.below (U.aL bC) hB3
       replace hown:=hown.ext hB3
       replace hE:=hE.below hB3
       clear hB3 hR hf
       go_wp2_with (fail)
       refine (kX.out _ j HH.out.1 0 HH.out.2.1 bn).mono ?_
       rintro e w4 ⟨rfl,hB4⟩
       replace bn:=U.below (U.aL bn) hB4
       replace bC:=U.below (U.aL bC) hB4
       replace hv3:=U.below (U.aL hv3) hB4
       replace hown:=hown.ext hB4
       replace hE:=hE.below hB4
       clear hB4
       have hv5:=hv3
       have nT:=hf3
       clear hv3 hf3
       have jD:=hown.block.2
       go_wp2_with (fail)
       refine (iL _ _ _ R1 b hv5 bC (by have:=HH.out;have:=HR1.out;have:=jr.out R1 (by omega);omega) (by have:=uZ.out;omega) true (by rw [decide_eq_true_iff];exact HH.out.2.2.1) d HH.out.2.2.2.1).mono ?_
       rintro e w6 ⟨v6,rfl,hv6,gI,aZ⟩
       replace gI:d9 (B+1) v6:=gI.mono jD
       replace hown:=hown.ext aZ
       replace hE:=hE.below aZ
       replace hv5:=U.below (U.aL hv5) aZ
       clear aZ bn bC
       have hcz:=hown.rd.2 k HH.out.2.2.2.2.1
       rw [HH.out.2.2.2.2.2.1] at hcz
       have hfz:=hown.frozen' k
       have qH:But B w6 (w6.setCell ⟨B,k,none⟩ (.int .u32 (y:Nat))):=(But.refl B w6).setCell k _
       have hown2:=hown.set' k y
       have hv7:=U.apart (U.aL hv6) gI (Nat.lt_succ_self B) qH
       have hE2:=hE.setCell (p:=⟨B,k,none⟩) (by rw [pW.out];exact Nat.le_refl _) (.int .u32 (y:Nat))
       clear hv5 nT hv6 hown hE qH jD
       go_wp2
       go_region
       all_goals
        go_wp2
        go_roundw
        case rel=>exact ⟨j,_,d,_,by omega,rfl,rfl,hv7,gI,HRR,HST,hown2.drew,hE2.drew⟩
        case measure=>simp [intOf]
     · obtain ⟨d,hd⟩:∃ d,R1-b=d:=⟨_,rfl⟩
       obtain ⟨h2,h3⟩:=HO.out.none 0 R hbit jG.out (by omega)
       have HST:=Lib.hid h2
       have HRR:Hid (a/2^j%b=R1):=by rw [Hid,h3];omega
       have HH:=Lib.hid (And.intro hj2 (And.intro hbit (And.intro hge (And.intro hd (And.intro gH (And.intro hxe (And.intro hRb (And.intro ku (And.intro gG (And.intro hlb hwr))))))))))
       clear hk hs hP h2 h3 HO jG hj2 hbit hge hd gH hxe hRb ku hkl hPb gG hlb hwr
       go_wp2_with (fail)
       refine (iM _ _ R 1 hR (by decide) (by have:=HH.out;have:=jr.out R (by omega);omega) R1 HR1.out).mono ?_
       rintro e w3 ⟨v3,rfl,hv3,hf3,hB3⟩
       replace hf3:d9 (B+1) v3:=hf3.mono HH.out.2.2.2.2.2.2.2.2.2.2
       replace bn:=U.below (U.aL bn) hB3
       replace bC:=U.below (U.aL bC) hB3
       replace hown:=hown.ext hB3
       replace hE:=hE.below hB3
       clear hB3 hR hf
       go_wp2_with (fail)
       refine (kX.out _ j HH.out.1 0 HH.out.2.1 bn).mono ?_
       rintro e w4 ⟨rfl,hB4⟩
       replace bn:=U.below (U.aL bn) hB4
       replace bC:=U.below (U.aL bC) hB4
       replace hv3:=U.below (U.aL hv3) hB4
       replace hown:=hown.ext hB4
       replace hE:=hE.below hB4
       clear hB4
       have hv5:=hv3
       have nT:=hf3
       clear hv3 hf3
       have jD:=hown.block.2
       go_wp2_with (fail)
       refine (iL _ _ _ R1 b hv5 bC (by have:=HH.out;have:=HR1.out;have:=jr.out R1 (by omega);omega) (by have:=uZ.out;omega) false (by rw [decide_eq_false_iff_not];exact HH.out.2.2.1) d HH.out.2.2.2.1).mono ?_
       rintro e w6 ⟨v6,rfl,hv6,gI,aZ⟩
       replace gI:d9 (B+1) v6:=gI.mono jD
       replace hown:=hown.ext aZ
       replace hE:=hE.below aZ
       replace hv5:=U.below (U.aL hv5) aZ
       clear aZ bn bC
       clear hv6 gI jD
       go_wp2
       go_roundw
       case rel=>exact ⟨j,_,R1,_,by omega,rfl,rfl,hv5,nT,HRR,HST,hown,hE⟩
       case measure=>simp [intOf]
   · obtain ⟨R2,hR2⟩:∃ R2,R1+1=R2:=⟨_,rfl⟩
     have HR2:=Lib.hid hR2
     by_cases hge:b≤R2
     · obtain ⟨d,hd⟩:∃ d,R2-b=d:=⟨_,rfl⟩
       obtain ⟨h1,h2,h3⟩:=HO.out.more HB0.out 1 R k s P x hbit jG.out (by omega) hk hs hP hxe hkl
       obtain ⟨y,hy⟩:∃ y,x+P=y:=⟨_,rfl⟩
       rw [hy] at h1 h2
       have HST:=Lib.hid h2
       have HRR:Hid (a/2^j%b=d):=by rw [Hid,h3];omega
       have q1:(x:Int)+(P:Int)=(y:Int):=by omega
       have q2:=gN h1
       have q3:=gP h1
       have HH:=Lib.hid (And.intro hj2 (And.intro hbit (And.intro hge (And.intro hd (And.intro gH (And.intro hxe (And.intro hRb (And.intro ku (And.intro gG (And.intro hlb hwr))))))))))
       clear hk hs hP h1 h2 h3 hy HO jG hj2 hbit hge hd gH hxe hRb ku hkl hPb gG hlb hwr hR2
       go_wp2_with (fail)
       refine (iM _ _ R 1 hR (by decide) (by have:=HH.out;have:=jr.out R (by omega);omega) R1 HR1.out).mono ?_
       rintro e w3 ⟨v3,rfl,hv3,hf3,hB3⟩
       replace hf3:d9 (B+1) v3:=hf3.mono HH.out.2.2.2.2.2.2.2.2.2.2
       replace bn:=U.below (U.aL bn) hB3
       replace bC:=U.below (U.aL bC) hB3
       replace hown:=hown.ext hB3
       replace hE:=hE.below hB3
       clear hB3 hR hf
       go_wp2_with (fail)
       refine (kX.out _ j HH.out.1 1 HH.out.2.1 bn).mono ?_
       rintro e w4 ⟨rfl,hB4⟩
       replace bn:=U.below (U.aL bn) hB4
       replace bC:=U.below (U.aL bC) hB4
       replace hv3:=U.below (U.aL hv3) hB4
       replace hown:=hown.ext hB4
       replace hE:=hE.below hB4
       clear hB4
       have hl:=Lib.hid (jR w4)
       have hw4:=hown.block.2
       go_wp2_with (fail)
       refine (l9 _ _ _ R1 1 (U.alloc (U.aL hv3) _) hl.out (by have:=HH.out;have:=HR1.out;have:=jr.out R1 (by omega);omega) (by have:=qi;rw [dA 1 (by decide) (by decide)];simp) R2 HR2.out).mono ?_
       rintro e w5 ⟨v5,rfl,hv5,sO,bH⟩
       have nT:d9 (B+1) v5:=sO.mono (by simp;omega)
       replace bn:=U.below (U.alloc (U.aL bn) _) bH
       replace bC:=U.below (U.alloc (U.aL bC) _) bH
       replace hown:=(hown.alloc _).ext bH
       replace hE:=(hE.alloc _).below bH
       clear bH sO hv3 hf3 hl hw4
       have jD:=hown.block.2
       go_wp2_with (fail)
       refine (iL _ _ _ R2 b hv5 bC (by have:=HH.out;have:=HR1.out;have:=HR2.out;have:=jr.out R2 (by omega);omega) (by have:=uZ.out;omega) true (by rw [decide_eq_true_iff];exact HH.out.2.2.1) d HH.out.2.2.2.1).mono ?_
       rintro e w6 ⟨v6,rfl,hv6,gI,aZ⟩
       replace gI:d9 (B+1) v6:=gI.mono jD
       replace hown:=hown.ext aZ
       replace hE:=hE.below aZ
       replace hv5:=U.below (U.aL hv5) aZ
       clear aZ bn bC
       have hcz:=hown.rd.2 k HH.out.2.2.2.2.1
       rw [HH.out.2.2.2.2.2.1] at hcz
       have hfz:=hown.frozen' k
       have qH:But B w6 (w6.setCell ⟨B,k,none⟩ (.int .u32 (y:Nat))):=(But.refl B w6).setCell k _
       have hown2:=hown.set' k y
       have hv7:=U.apart (U.aL hv6) gI (Nat.lt_succ_self B) qH
       have hE2:=hE.setCell (p:=⟨B,k,none⟩) (by rw [pW.out];exact Nat.le_refl _) (.int .u32 (y:Nat))
       clear hv5 nT hv6 hown hE qH jD
       go_wp2
       go_region
       all_goals
        go_wp2
        go_roundw
        case rel=>exact ⟨j,_,d,_,by omega,rfl,rfl,hv7,gI,HRR,HST,hown2.drew,hE2.drew⟩
        case measure=>simp [intOf]
     · obtain ⟨d,hd⟩:∃ d,R2-b=d:=⟨_,rfl⟩
       obtain ⟨h2,h3⟩:=HO.out.none 1 R hbit jG.out (by omega)
       have HST:=Lib.hid h2
       have HRR:Hid (a/2^j%b=R2):=by rw [Hid,h3];omega
       have HH:=Lib.hid (And.intro hj2 (And.intro hbit (And.intro hge (And.intro hd (And.intro gH (And.intro hxe (And.intro hRb (And.intro ku (And.intro gG (And.intro hlb hwr))))))))))
       clear hk hs hP h2 h3 HO jG hj2 hbit hge hd gH hxe hRb ku hkl hPb gG hlb hwr hR2
       go_wp2_with (fail)
       refine (iM _ _ R 1 hR (by decide) (by have:=HH.out;have:=jr.out R (by omega);omega) R1 HR1.out).mono ?_
       rintro e w3 ⟨v3,rfl,hv3,hf3,hB3⟩
       replace hf3:d9 (B+1) v3:=hf3.mono HH.out.2.2.2.2.2.2.2.2.2.2
       replace bn:=U.below (U.aL bn) hB3
       replace bC:=U.below (U.aL bC) hB3
       replace hown:=hown.ext hB3
       replace hE:=hE.below hB3
       clear hB3 hR hf
       go_wp2_with (fail)
       refine (kX.out _ j HH.out.1 1 HH.out.2.1 bn).mono ?_
       rintro e w4 ⟨rfl,hB4⟩
       replace bn:=U.below (U.aL bn) hB4
       replace bC:=U.below (U.aL bC) hB4
       replace hv3:=U.below (U.aL hv3) hB4
       replace hown:=hown.ext hB4
       replace hE:=hE.below hB4
       clear hB4
       have hl:=Lib.hid (jR w4)
       have hw4:=hown.block.2
       go_wp2_with (fail)
       refine (l9 _ _ _ R1 1 (U.alloc (U.aL hv3) _) hl.out (by have:=HH.out;have:=HR1.out;have:=jr.out R1 (by omega);omega) (by have:=qi;rw [dA 1 (by decide) (by decide)];simp) R2 HR2.out).mono ?_
       rintro e w5 ⟨v5,rfl,hv5,sO,bH⟩
       have nT:d9 (B+1) v5:=sO.mono (by simp;omega)
       replace bn:=U.below (U.alloc (U.aL bn) _) bH
       replace bC:=U.below (U.alloc (U.aL bC) _) bH
       replace hown:=(hown.alloc _).ext bH
       replace hE:=(hE.alloc _).below bH
       clear bH sO hv3 hf3 hl hw4
       have jD:=hown.block.2
       go_wp2_with (fail)
       refine (iL _ _ _ R2 b hv5 bC (by have:=HH.out;have:=HR1.out;have:=HR2.out;have:=jr.out R2 (by omega);omega) (by have:=uZ.out;omega) false (by rw [decide_eq_false_iff_not];exact HH.out.2.2.1) d HH.out.2.2.2.1).mono ?_
       rintro e w6 ⟨v6,rfl,hv6,gI,aZ⟩
       replace gI:d9 (B+1) v6:=gI.mono jD
       replace hown:=hown.ext aZ
       replace hE:=hE.below aZ
       replace hv5:=U.below (U.aL hv5) aZ
       clear aZ bn bC
       clear hv6 gI jD
       go_wp2
       go_roundw
       case rel=>exact ⟨j,_,R2,_,by omega,rfl,rfl,hv5,nT,HRR,HST,hown,hE⟩
       case measure=>simp [intOf]
theorem Sz.sn {z:Int} {K:Nat} (h:Sz z K):Sn z.natAbs K:=h
namespace EJ
theorem jH (u:Array Value) (X:World):(callFunc 36 u).run Tryz.prog X = .ok (.enter 36 u) X:=Pl.enters Tryz.func36 (by kernel_rfl) rfl u X
end EJ
open EJ
namespace EGE
end EGE
open EGE
theorem kD (w:World) (v:Value) (n:Nat) (h:Un w v n) (hl:Sn n 1000):Calls Tryz.prog 33 #[.bool false,v] w fun e w'=>∃ u,e = .returned u∧Zn w' u (n:Int)∧Ext w w' :=
 adJ w false v (limbs n) h (Nat.le_trans hl (by decide)) n (aG _) (n:Int) (rW n)
section
variable {L:List Oper} {S:World→Prop} {K:List (Nat × Value)→World→Prop} {i m:Nat} {o:Oper} {x y:Operand} {r:List (Bool × Nat × Nat)} {l:List (Nat × Value)} {w:World} {N n0 c0 n c:Nat} {b0 b:Bool} {A0 A:Option Addr}
end
namespace Ez
theorem Cv (u:Array Value) (X:World):(callFunc 33 u).run Tryz.prog X = .ok (.enter 33 u) X:=Pl.enters Tryz.func33 (by kernel_rfl) rfl u X
end Ez
open Ez
set_option maxRecDepth 100000 in
set_option maxHeartbeats 4000000 in
theorem D5 (w:World) (jm mV:Value) (a b:Nat) (bn:Un w jm a) (bC:Un w mV b) (hla:Sn a 200) (hlb:Sn b 200) (d:Bool) (hd:decide (a∣b)=d) (ha0:a=0) :
  Calls Tryz.prog 29 #[jm,mV] w fun e w'=>e = .returned (.bool d)∧Ext w w':=by
 refine Pl.aV (n:=24) (vs:=[jm,mV]) Tryz.func29 rfl (by kernel_rfl) (by simp) ?_
 refine Pl.az ?_
 refine Pl.ay (by kernel_rfl) ?_
 refine Pl.aj trivial rfl rfl rfl rfl rfl ?_
 refine Pl.ak ?_
 refine Pl.az ?_
 refine Pl.az ?_
 refine Pl.ay (by kernel_rfl) ?_
 refine Pl.ah trivial rfl rfl rfl rfl rfl ?_
 obtain ⟨Wj,Wl,rfl,-⟩:=Un.sh bn
 refine bG trivial rfl rfl rfl rfl rfl ?_
 refine Pl.aI (v:=(.bool true)) trivial rfl rfl rfl rfl rfl rfl (fun X=>fV (dN.trans (decide_eq_true ha0)) X) ?_
 refine Pl.ak ?_
 refine Pl.dh rfl ?_
 refine Pl.az ?_
 refine Pl.ay (by kernel_rfl) ?_
 refine Pl.ah trivial rfl rfl rfl rfl rfl ?_
 obtain ⟨Ke,Kg,rfl,-⟩:=Un.sh bC
 refine bG trivial rfl rfl rfl rfl rfl ?_
 refine Pl.aI (v:=(.bool (decide (b=0)))) trivial rfl rfl rfl rfl rfl rfl (fun X=>fV dN X) ?_
 refine Pl.aj trivial rfl rfl rfl rfl rfl ?_
 refine Pl.ak ?_
 refine Pl.bU rfl rfl ?_
 exact ⟨by rw [← hd];subst ha0;simp [Nat.zero_dvd],(Ext.refl w)⟩
set_option maxRecDepth 100000 in
set_option maxHeartbeats 4000000 in
theorem D6 (w:World) (jm mV:Value) (a b:Nat) (bn:Un w jm a) (bC:Un w mV b) (hla:Sn a 200) (hlb:Sn b 200) (d:Bool) (hd:decide (a∣b)=d) (ha0:a≠0) :
  Calls Tryz.prog 29 #[jm,mV] w fun e w'=>e = .returned (.bool d)∧Ext w w':=by
 refine Pl.aV (n:=24) (vs:=[jm,mV]) Tryz.func29 rfl (by kernel_rfl) (by simp) ?_
 refine Pl.az ?_
 refine Pl.ay (by kernel_rfl) ?_
 refine Pl.aj trivial rfl rfl rfl rfl rfl ?_
 refine Pl.ak ?_
 refine Pl.az ?_
 refine Pl.az ?_
 refine Pl.ay (by kernel_rfl) ?_
 refine Pl.ah trivial rfl rfl rfl rfl rfl ?_
 obtain ⟨Wj,Wl,rfl,-⟩:=Un.sh bn
 refine bG trivial rfl rfl rfl rfl rfl ?_
 refine Pl.aI (v:=(.bool false)) trivial rfl rfl rfl rfl rfl rfl (fun X=>fV (dN.trans (decide_eq_false ha0)) X) ?_
 refine Pl.ak ?_
 refine Pl.bD rfl ?_
 refine Pl.bN ?_
 refine Pl.az ?_
 refine Pl.ay (by kernel_rfl) ?_
 refine Pl.ah trivial rfl rfl rfl rfl rfl ?_
 refine Pl.ah trivial rfl rfl rfl rfl rfl ?_
 refine Pl.aA rfl rfl rfl rfl rfl jH ?_
 refine Calls.mono (jU _ _ _ b a _ _ bC bn (Sn.le hlb (by decide)) (Sn.le hla (by decide)) ha0 rfl rfl) ?_
 rintro e w1 ⟨⟨Yu,uR,rfl,M5,pR⟩,hB1⟩
 refine ⟨_,rfl,trivial,?_⟩
 have Pk:Sn (b/a) 200:=Sn.div hlb
 have qJ:Sn (b%a) 200:=Sn.mod hla ha0
 refine Pl.ah trivial rfl rfl rfl rfl rfl ?_
 refine Pl.aB trivial rfl rfl rfl rfl rfl rfl ?_
 refine Pl.aB trivial rfl rfl rfl rfl rfl rfl ?_
 refine Pl.aB trivial rfl rfl rfl rfl rfl rfl ?_
 refine Pl.aj trivial rfl rfl rfl rfl rfl ?_
 refine Pl.aj trivial rfl rfl rfl rfl rfl ?_
 refine Pl.aj trivial rfl rfl rfl rfl rfl ?_
 refine Pl.ak ?_
 refine Pl.az ?_
 refine Pl.ay (by kernel_rfl) ?_
 refine Pl.ah trivial rfl rfl rfl rfl rfl ?_
 obtain ⟨Bi,Bj,rfl,-⟩:=Un.sh pR
 refine bG trivial rfl rfl rfl rfl rfl ?_
 refine Pl.aI (v:=(.bool (decide (b%a=0)))) trivial rfl rfl rfl rfl rfl rfl (fun X=>fV dN X) ?_
 refine Pl.aj trivial rfl rfl rfl rfl rfl ?_
 refine Pl.ak ?_
 refine Pl.bU rfl rfl ?_
 exact ⟨by rw [← hd];rw [show decide (b%a=0)=decide (a∣b) from decide_eq_decide.2 ⟨Nat.dvd_of_mod_eq_zero,Nat.mod_eq_zero_of_dvd⟩],hB1⟩
theorem ng (w:World) (jm mV:Value) (a b:Nat) (bn:Un w jm a) (bC:Un w mV b) (hla:Sn a 200) (hlb:Sn b 200) (d:Bool) (hd:decide (a∣b)=d) :
  Calls Tryz.prog 29 #[jm,mV] w fun e w'=>e = .returned (.bool d)∧Ext w w':=by
 by_cases h:a=0
 · exact D5 w jm mV a b bn bC hla hlb d hd h
 · exact D6 w jm mV a b bn bC hla hlb d hd h
set_option maxRecDepth 100000 in
theorem aiz (w:World) (v:Value) (b:Bool) (xs:List Nat) (h:Ri w v b xs) (r:Bool) (hr:(TM xs&&!(b&&decide (xs.length=0)))=r) :
  Calls Tryz.prog 34 #[v] w fun e w'=>e = .returned (.bool r)∧Ext w w':=by
 obtain ⟨A,c,rfl,hu⟩:=h
 have hE0:=(Ext.refl w).alloc (.cells #[.bool b,.slice A xs.length c] 27)
 have Dh:=Ib.new w b (.slice A xs.length c) 27
 have hu0:=hu.below hE0
 obtain ⟨q,hq⟩:∃ q,TM xs=q:=⟨_,rfl⟩
 have hR:=Lib.hid (aaF _ _ xs hu0 q hq)
 rw [hq] at hr
 obtain ⟨L,hL⟩:∃ L,xs.length=L:=⟨_,rfl⟩
 rw [hL] at hr hR Dh hE0 ⊢
 clear hq hL hu0 hu
 by_cases h0:L=0
 · subst h0
   cases b<;>cases q
   all_goals (
    subst hr
    go_enter Tryz.func34,Tryz.ntmps34
    go_wp2_with (go_at_call 70;refine hR.out.mono ?_;rintro e w2 ⟨rfl,hE2⟩;obtain ⟨p0,p1,p2,p3,p4⟩:=Dh.ext hE2)
    go_ret
    exact ⟨by first | rfl | simp,hE0.below hE2⟩)
 · have h3:(0:Int)<(L:Int):=by omega
   have h4:0<L:=by omega
   rw [decide_eq_false h0] at hr
   cases b<;>cases q
   all_goals (
    subst hr
    go_enter Tryz.func34,Tryz.ntmps34
    go_wp2_with (go_at_call 70;refine hR.out.mono ?_;rintro e w2 ⟨rfl,hE2⟩;obtain ⟨p0,p1,p2,p3,p4⟩:=Dh.ext hE2)
    go_ret
    exact ⟨by first | rfl | simp,hE0.below hE2⟩)
theorem aac (n m:Nat):(limbs (n*m)).length≤(limbs n).length+(limbs m).length:=by
 refine iA ?_
 rw [Nat.pow_add]
 exact Nat.mul_lt_mul'' (bO (Nat.le_refl _)) (bO (Nat.le_refl _))
set_option maxRecDepth 100000 in
set_option maxHeartbeats 8000000 in
theorem aaz (w:World) (p:Bool) (A B:Option Addr) (L K c d n m:Nat) (hu:Un w (.slice A L c) n) (hv:Un w (.slice B K d) m) (hl:(limbs n).length≤1000000) (hl2:(limbs m).length≤1000000) (y:Int) (hy:sg p (n+m)=y) :
  Calls Tryz.prog 31 #[.agg #[.bool p,.slice A L c],.agg #[.bool p,.slice B K d]] w fun e w'=>∃ u,e = .returned u∧Zn w' u y∧Ext w w':=by
 have hE0:=((((Ext.refl w).alloc (.cells #[.bool p,.slice A L c] 27)).alloc (.cells #[.bool p,.slice B K d] 27)).alloc (.cells #[.bool false,.slice none 0 0] 27)).drew
 have hI0:=(Ib.aad w (.cells #[.bool p,.slice A L c] 27) (.cells #[.bool p,.slice B K d] 27) false (.slice none 0 0) 27).ext (Ext.refl _).drew
 have Dh:=(Ib.new w p (.slice A L c) 27).ext ((((Ext.refl _).alloc (.cells #[.bool p,.slice B K d] 27)).alloc (.cells #[.bool false,.slice none 0 0] 27)).drew)
 have qj:=(Ib.new2 w (.cells #[.bool p,.slice A L c] 27) p (.slice B K d) 27).ext (((Ext.refl _).alloc (.cells #[.bool false,.slice none 0 0] 27)).drew)
 have hS0:(w.heap.size+1+1<(((w.alloc (.cells #[.bool p,.slice A L c] 27)).alloc (.cells #[.bool p,.slice B K d] 27)).alloc (.cells #[.bool false,.slice none 0 0] 27)).drew.heap.size∧(((w.alloc (.cells #[.bool p,.slice A L c] 27)).alloc (.cells #[.bool p,.slice B K d] 27)).alloc (.cells #[.bool false,.slice none 0 0] 27)).drew.cell? ⟨w.heap.size,0,none⟩=some (.bool p)∧(((w.alloc (.cells #[.bool p,.slice A L c] 27)).alloc (.cells #[.bool p,.slice B K d] 27)).alloc (.cells #[.bool false,.slice none 0 0] 27)).drew.cell? ⟨w.heap.size,1,none⟩=some (.slice A L c)∧(((w.alloc (.cells #[.bool p,.slice A L c] 27)).alloc (.cells #[.bool p,.slice B K d] 27)).alloc (.cells #[.bool false,.slice none 0 0] 27)).drew.cell? ⟨w.heap.size+1,0,none⟩=some (.bool p)∧(((w.alloc (.cells #[.bool p,.slice A L c] 27)).alloc (.cells #[.bool p,.slice B K d] 27)).alloc (.cells #[.bool false,.slice none 0 0] 27)).drew.cell? ⟨w.heap.size+1,1,none⟩=some (.slice B K d))∧Ext w (((w.alloc (.cells #[.bool p,.slice A L c] 27)).alloc (.cells #[.bool p,.slice B K d] 27)).alloc (.cells #[.bool false,.slice none 0 0] 27)).drew:=⟨⟨by simp,Dh.2.1,Dh.2.2.1,qj.2.1,qj.2.2.1⟩,hE0⟩
 have hu0:=hu.below hE0
 have hv0:=hv.below hE0
 have hsl:(limbs (n+m)).length≤1000000000:=by
  have h1:=bO hl
  have h2:=bO hl2
  refine Nat.le_trans (iA (k:=1000000+1) ?_) (by omega)
  obtain ⟨E,hE⟩:∃ E,1000000=E:=⟨_,rfl⟩
  rw [hE] at h1 h2 ⊢
  rw [Nat.pow_succ]
  have:LB^E*2≤LB^E*LB:=Nat.mul_le_mul_left _ (by unfold LB;decide)
  unfold LB at *
  omega
 have hA:=Lib.hid (fun W h g=>wm W (.slice A L c) (.slice B K d) n m h g (by omega) (by omega) _ rfl)
 have hM:=Lib.hid (fun W v (h:Un W v (n+m))=>adJ W p v (limbs (n+m)) h hsl _ (aG _) y hy)
 clear hl hl2 hu hv hy Dh qj hsl
 all_goals (
  go_enter Tryz.func31,Tryz.ntmps31
  go_wp2
  go_region_held3 (fun X=>(w.heap.size+1+1<X.heap.size∧X.cell? ⟨w.heap.size,0,none⟩=some (.bool p)∧X.cell? ⟨w.heap.size,1,none⟩=some (.slice A L c)∧X.cell? ⟨w.heap.size+1,0,none⟩=some (.bool p)∧X.cell? ⟨w.heap.size+1,1,none⟩=some (.slice B K d))∧Ext w X)
   (first
    | assumption
    | exact hS0
    | exact afX (by assumption) (by assumption)
    | exact afY (by assumption))
   (first
    | (go_at_call 30;((with_reducible refine (hA.out _ hu0 hv0).mono ?_);rintro e w2 ⟨u,rfl,hu2,hE2⟩;obtain ⟨A2,c2,rfl,-⟩:=Un.sh hu2))
    | (go_at_call 33;((with_reducible refine (hM.out _ _ hu2).mono ?_);rintro e w3 ⟨u,rfl,hz3,pE⟩;obtain ⟨b3,A3,L3,c3,rfl⟩:=hz3.sh;have Bu:=(hI0.ext hE2).ext pE;obtain ⟨i0,i1,i2,i3,i4⟩:=id Bu)))
  clear Bu hA hM
  go_wp2
  (try simp only [Exit.inBlock,Exit.then])
  refine bodyPost_ret (v:=.agg #[.bool b3,.slice A3 L3 c3]) (show (results _ _).run _ _=_ from ?_) rfl ⟨_,rfl,hz3.jS ((hI0.ext hE2).ext pE) (dF _ _ _) _ _,((hE0.below hE2).below pE).jS (by omega) _ _⟩
  simp only [results]
  go_simp)
set_option maxRecDepth 100000 in
set_option maxHeartbeats 8000000 in
theorem aai (w:World) (p:Bool) (A B:Option Addr) (L K c d n m:Nat) (hu:Un w (.slice A L c) n) (hv:Un w (.slice B K d) m) (hl:(limbs n).length≤1000000) (hl2:(limbs m).length≤1000000) (y:Int) (hy:(if m≤n then sg p (n-m) else sg (!p) (m-n))=y) :
  Calls Tryz.prog 31 #[.agg #[.bool p,.slice A L c],.agg #[.bool (!p),.slice B K d]] w fun e w'=>∃ u,e = .returned u∧Zn w' u y∧Ext w w':=by
 have hE0:=(((Ext.refl w).alloc (.cells #[.bool p,.slice A L c] 27)).alloc (.cells #[.bool (!p),.slice B K d] 27)).alloc (.cells #[.bool false,.slice none 0 0] 27)
 have hI0:=Ib.aad w (.cells #[.bool p,.slice A L c] 27) (.cells #[.bool (!p),.slice B K d] 27) false (.slice none 0 0) 27
 have Dh:=(Ib.new w p (.slice A L c) 27).ext (((Ext.refl _).alloc (.cells #[.bool (!p),.slice B K d] 27)).alloc (.cells #[.bool false,.slice none 0 0] 27))
 have qj:=(Ib.new2 w (.cells #[.bool p,.slice A L c] 27) (!p) (.slice B K d) 27).ext ((Ext.refl _).alloc (.cells #[.bool false,.slice none 0 0] 27))
 have hu0:=hu.below hE0
 have hv0:=hv.below hE0
 obtain ⟨d1,hd1⟩:∃ d,n-m=d:=⟨_,rfl⟩
 obtain ⟨d2,hd2⟩:∃ d,m-n=d:=⟨_,rfl⟩
 have hl3:(limbs d1).length≤1000000000:=by have:=gV (show d1≤n by omega);omega
 have hl4:(limbs d2).length≤1000000000:=by have:=gV (show d2≤m by omega);omega
 rw [hd1,hd2] at hy
 by_cases h0:m≤n
 · rw [if_pos h0] at hy
   have hA:=Lib.hid (fun W h g=>TR W (.slice A L c) (.slice B K d) n m h g (by omega) (by omega) true (decide_eq_true h0) d1 hd1)
   have hM:=Lib.hid (fun W v (h:Un W v d1)=>adJ W p v (limbs d1) h hl3 _ (aG _) y hy)
   clear hl hl2 hu hv hy hl3 hl4 hd1 hd2 h0
   cases p
   all_goals (
    go_enter Tryz.func31,Tryz.ntmps31
    go_wp2_with (first
     | (go_at_call 38;refine (hA.out _ hu0 hv0).mono ?_;rintro e w2 ⟨u,rfl,hu2,hE2⟩;obtain ⟨A2,c2,rfl,-⟩:=Un.sh hu2;obtain ⟨p0,p1,p2,p3,p4⟩:=Dh.ext hE2;obtain ⟨q0,q1,q2,q3,q4⟩:=qj.ext hE2)
     | (go_at_call 33;refine (hM.out _ _ hu2).mono ?_;rintro e w3 ⟨u,rfl,hz3,pE⟩;obtain ⟨b3,A3,L3,c3,rfl⟩:=hz3.sh;have Bu:=(hI0.ext hE2).ext pE;obtain ⟨i0,i1,i2,i3,i4⟩:=id Bu))
    (try simp only [Exit.inBlock,Exit.then])
    refine bodyPost_ret (v:=.agg #[.bool b3,.slice A3 L3 c3]) (show (results _ _).run _ _=_ from ?_) rfl ⟨_,rfl,hz3.jS ((hI0.ext hE2).ext pE) (dF _ _ _) _ _,((hE0.below hE2).below pE).jS (by omega) _ _⟩
    simp only [results]
    go_simp)
 · rw [if_neg h0] at hy
   have hA:=Lib.hid (fun W h g=>TR W (.slice A L c) (.slice B K d) n m h g (by omega) (by omega) false (decide_eq_false h0) d1 hd1)
   have hA2:=Lib.hid (fun W h g=>TR W (.slice B K d) (.slice A L c) m n h g (by omega) (by omega) _ rfl d2 hd2)
   have hM:=Lib.hid (fun W v (h:Un W v d2)=>adJ W (!p) v (limbs d2) h hl4 _ (aG _) y hy)
   clear hl hl2 hu hv hy hl3 hl4 hd1 hd2 h0
   cases p
   all_goals (
    go_enter Tryz.func31,Tryz.ntmps31
    go_upto_region 6 with (go_at_call 38;refine (hA.out _ hu0 hv0).mono ?_;rintro e w2 ⟨u,rfl,hu2,hE2⟩;obtain ⟨A2,c2,rfl,-⟩:=Un.sh hu2;obtain ⟨p0,p1,p2,p3,p4⟩:=Dh.ext hE2;obtain ⟨q0,q1,q2,q3,q4⟩:=qj.ext hE2)
    go_wp2_with (first
     | (go_at_call 38;refine (hA2.out _ (Un.below hv0 hE2) (Un.below hu0 hE2)).mono ?_;rintro e w4 ⟨u,rfl,hu4,wZ⟩;obtain ⟨A4,c4,rfl,-⟩:=Un.sh hu4;obtain ⟨p0,p1,p2,p3,p4⟩:=(Dh.ext hE2).ext wZ;obtain ⟨q0,q1,q2,q3,q4⟩:=(qj.ext hE2).ext wZ)
     | (go_at_call 33;refine (hM.out _ _ hu4).mono ?_;rintro e w3 ⟨u,rfl,hz3,pE⟩;obtain ⟨b3,A3,L3,c3,rfl⟩:=hz3.sh;have Bu:=((hI0.ext hE2).ext wZ).ext pE;obtain ⟨i0,i1,i2,i3,i4⟩:=id Bu))
    (try simp only [Exit.inBlock,Exit.then])
    refine bodyPost_ret (v:=.agg #[.bool b3,.slice A3 L3 c3]) (show (results _ _).run _ _=_ from ?_) rfl ⟨_,rfl,hz3.jS (((hI0.ext hE2).ext wZ).ext pE) (dF _ _ _) _ _,(((hE0.below hE2).below wZ).below pE).jS (by omega) _ _⟩
    simp only [results]
    go_simp)
theorem Qc (w:World) (va vb:Value) (a b:Int) (ha:Zn w va a) (hb:Zn w vb b) (hl:(limbs a.natAbs).length≤1000000) (hl2:(limbs b.natAbs).length≤1000000) (y:Int) (hy:a+b=y) :
  Calls Tryz.prog 31 #[va,vb] w fun e w'=>∃ u,e = .returned u∧Zn w' u y∧Ext w w':=by
 obtain ⟨p,A,L,c,n,rfl,hu,hL,hz,-,hza,hzn⟩:=ha.open
 obtain ⟨q,B,K,d,m,rfl,hv,hK,hz2,-,xA,Fz⟩:=hb.open
 rw [hza] at hl
 rw [xA] at hl2
 rw [hz,hz2] at hy
 by_cases h:q=p
 · subst h
   exact aaz w q A B L K c d n m hu hv hl hl2 y ((EQ _ _ _).trans hy)
 · obtain rfl:q = !p:=by cases p<;>cases q<;>first | rfl | exact absurd rfl h
   exact aai w p A B L K c d n m hu hv hl hl2 y ((CV _ _ _).trans hy)
set_option maxRecDepth 100000 in
set_option maxHeartbeats 8000000 in
theorem yx (w:World) (va vb:Value) (a b:Int) (ha:Zn w va a) (hb:Zn w vb b) (hl:(limbs a.natAbs).length≤398) (hl2:(limbs b.natAbs).length≤398) (y:Int) (hy:a*b=y) :
  Calls Tryz.prog 32 #[va,vb] w fun e w'=>∃ u,e = .returned u∧Zn w' u y∧Ext w w':=by
 obtain ⟨p,A,L,c,n,rfl,hu,hL,hz,-,hza,hzn⟩:=ha.open
 obtain ⟨q,B,K,d,m,rfl,hv,hK,hz2,-,xA,Fz⟩:=hb.open
 rw [hza] at hl
 rw [xA] at hl2
 obtain ⟨k,hk⟩:∃ k,n*m=k:=⟨_,rfl⟩
 have hM:=Lib.hid (fun W h g=>kP W (.slice A L c) (.slice B K d) n m k h g hl hl2 hk)
 have hkl:(limbs k).length≤1000000000:=by
  have:=aac n m
  rw [hk] at this
  omega
 have hMk:=Lib.hid (fun W v (h:Un W v k)=>adJ W (!(p==q)) v (limbs k) h hkl k (aG _) y (by rw [← hk,apg,← hz,← hz2];exact hy))
 have hE0:=((((Ext.refl w).alloc (.cells #[.bool p,.slice A L c] 27)).alloc (.cells #[.bool q,.slice B K d] 27)).alloc (.cells #[.bool false,.slice none 0 0] 27)).drew
 have hI0:=(Ib.aad w (.cells #[.bool p,.slice A L c] 27) (.cells #[.bool q,.slice B K d] 27) false (.slice none 0 0) 27).ext (Ext.refl _).drew
 have Dh:=(Ib.new w p (.slice A L c) 27).ext ((((Ext.refl _).alloc (.cells #[.bool q,.slice B K d] 27)).alloc (.cells #[.bool false,.slice none 0 0] 27)).drew)
 have qj:=(Ib.new2 w (.cells #[.bool p,.slice A L c] 27) q (.slice B K d) 27).ext (((Ext.refl _).alloc (.cells #[.bool false,.slice none 0 0] 27)).drew)
 have hu0:=hu.below hE0
 have hv0:=hv.below hE0
 obtain ⟨p0,p1,p2,p3,p4⟩:=id Dh
 obtain ⟨q0,q1,q2,q3,q4⟩:=id qj
 clear hl hl2 hza hzn xA Fz hz hz2 hL hK ha hb hy hk
 go_enter Tryz.func32,Tryz.ntmps32
 have hS0:(w.heap.size+1+1<(((w.alloc (.cells #[.bool p,.slice A L c] 27)).alloc (.cells #[.bool q,.slice B K d] 27)).alloc (.cells #[.bool false,.slice none 0 0] 27)).drew.heap.size∧(((w.alloc (.cells #[.bool p,.slice A L c] 27)).alloc (.cells #[.bool q,.slice B K d] 27)).alloc (.cells #[.bool false,.slice none 0 0] 27)).drew.cell? ⟨w.heap.size,0,none⟩=some (.bool p)∧(((w.alloc (.cells #[.bool p,.slice A L c] 27)).alloc (.cells #[.bool q,.slice B K d] 27)).alloc (.cells #[.bool false,.slice none 0 0] 27)).drew.cell? ⟨w.heap.size,1,none⟩=some (.slice A L c)∧(((w.alloc (.cells #[.bool p,.slice A L c] 27)).alloc (.cells #[.bool q,.slice B K d] 27)).alloc (.cells #[.bool false,.slice none 0 0] 27)).drew.cell? ⟨w.heap.size+1,0,none⟩=some (.bool q)∧(((w.alloc (.cells #[.bool p,.slice A L c] 27)).alloc (.cells #[.bool q,.slice B K d] 27)).alloc (.cells #[.bool false,.slice none 0 0] 27)).drew.cell? ⟨w.heap.size+1,1,none⟩=some (.slice B K d))∧Ext w (((w.alloc (.cells #[.bool p,.slice A L c] 27)).alloc (.cells #[.bool q,.slice B K d] 27)).alloc (.cells #[.bool false,.slice none 0 0] 27)).drew:=⟨⟨by simp,p1,p2,q1,q2⟩,hE0⟩
 clear p0 p1 p2 p3 p4 q0 q1 q2 q3 q4
 go_wp2
 go_region_held3 (fun X=>(w.heap.size+1+1<X.heap.size∧X.cell? ⟨w.heap.size,0,none⟩=some (.bool p)∧X.cell? ⟨w.heap.size,1,none⟩=some (.slice A L c)∧X.cell? ⟨w.heap.size+1,0,none⟩=some (.bool q)∧X.cell? ⟨w.heap.size+1,1,none⟩=some (.slice B K d))∧Ext w X)
  (first
   | exact hS0
   | exact afX (by assumption) (by assumption)
   | exact afY (by assumption))
  (first
   | (go_at_call 28;((with_reducible refine (hM.out _ hu0 hv0).mono ?_);rintro e w2 ⟨u,rfl,hu2,hE2⟩;obtain ⟨A2,c2,rfl,hc2⟩:=Un.sh hu2))
   | (go_at_call 33;((with_reducible refine (hMk.out _ _ hu2).mono ?_);rintro e w3 ⟨u,rfl,hz3,pE⟩;obtain ⟨b3,A3,L3,c3,rfl⟩:=hz3.sh;have Bu:=(hI0.ext hE2).ext pE;obtain ⟨i0,i1,i2,i3,i4⟩:=id Bu)))
 clear Bu hM hMk
 go_wp2
 (try simp only [Exit.inBlock,Exit.then])
 refine bodyPost_ret (v:=.agg #[.bool b3,.slice A3 L3 c3]) (show (results _ _).run _ _=_ from ?_) rfl ⟨_,rfl,hz3.jS ((hI0.ext hE2).ext pE) (dF _ _ _) _ _,((hE0.below hE2).below pE).jS (by omega) _ _⟩
 simp only [results]
 go_simp
namespace EK
theorem qL (u:Array Value) (X:World):(callFunc 28 u).run Tryz.prog X = .ok (.enter 28 u) X:=Pl.enters Tryz.func28 (by kernel_rfl) rfl u X
end EK
open EK
theorem akC {x y:Operand} {a b:Int} {v:Bool} (h:decide (a≤b)=v) (X:World):(do eqGuard .leq 3 x y (.int .i64 a) (.int .i64 b);binOp .leq 3 (.int .i64 a) (.int .i64 b):Sem Value).run Tryz.prog X = .ok (.bool v) X:=by
 subst h;go_simp
theorem atY (a b:Nat):((a:Nat):Int)*(cf (quo a b) 1 0).1+((b:Nat):Int)*(cf (quo a b) 0 1).1=((Nat.gcd a b:Nat):Int):=by
 rw [Int.mul_comm,Int.mul_comm (b:Int)];exact bez a b
theorem anO {a b:Nat} (h:a=0):Nat.gcd a b=a+b:=by subst h;simp
theorem anP {a b:Nat} (h:b=0):Nat.gcd a b=a+b:=by subst h;simp
theorem RM.last {a b:Nat}:∀ (Q P:Nat) (uP vP uQ vQ:Int) (done:List Nat),RM a b P Q uP vP uQ vQ done→∃ uQ vQ,RM a b (Nat.gcd a b) 0 (cf (quo a b) 1 0).1 (cf (quo a b) 0 1).1 uQ vQ (quo a b):=by
 intro Q
 induction Q using Nat.strongRecOn with
 | ind Q ih =>
  intro P uP vP uQ vQ done h
  by_cases h0:Q=0
  · subst h0
    have h2:=h
    obtain ⟨m1,m2,m3,m4,-⟩:=h2
    rw [eY] at m1 m2 m3
    rw [List.append_nil] at m1
    rw [Nat.gcd_zero_right] at m4
    refine ⟨uQ,vQ,?_⟩
    rw [← m2,← m3,← m4,m1]
    exact h
  · exact ih _ (Nat.mod_lt _ (Nat.pos_of_ne_zero h0)) _ _ _ _ _ _ (h.step h0)
theorem FN:∀ (l:List Nat) (p q:Nat),p≤q→(∀ k∈l,1≤k)→(cs l p q).1≤(cs l p q).2
 | [],_,_,h,_=>h
 | k::l,p,q,h,hk=>by
  refine FN l q (p+k*q) ?_ fun k hk2=>hk k (by simp [hk2])
  have h1:1*q≤k*q:=Nat.mul_le_mul_right q (hk k (by simp))
  omega
theorem IE (b:Nat):∀ a,b≤a→∀ k∈quo a b,1≤k:=by
 induction b using Nat.strongRecOn with
 | ind b ih =>
  intro a h k hk
  by_cases h0:b=0
  · subst h0;rw [eY] at hk;cases hk
  · rw [fH h0] at hk
    have hm:=Nat.mod_lt a (Nat.pos_of_ne_zero h0)
    rcases List.mem_cons.1 hk with rfl | hk
    · exact (Nat.le_div_iff_mul_le (Nat.pos_of_ne_zero h0)).2 (by omega)
    · exact ih _ hm b (Nat.le_of_lt hm) k hk
theorem anQ {a b:Nat} (hb:b≠0):(cs (quo a b) 1 0).1≤(cs (quo a b) 1 0).2:=by
 rw [fH hb]
 have hm:=Nat.mod_lt a (Nat.pos_of_ne_zero hb)
 show (cs (quo b (a%b)) 0 (1+a/b*0)).1≤(cs (quo b (a%b)) 0 (1+a/b*0)).2
 exact FN _ _ _ (Nat.zero_le _) (IE _ b (Nat.le_of_lt hm))
theorem anR {a b:Nat} (ha:a≠0) (hb:b≠0):(cs (quo a b) 0 1).1≤(cs (quo a b) 0 1).2:=by
 have hm:=Nat.mod_lt a (Nat.pos_of_ne_zero hb)
 by_cases h:b≤a
 · exact FN _ _ _ (Nat.zero_le _) (IE _ a h)
 · have e:a%b=a:=Nat.mod_eq_of_lt (by omega)
   have e2:a/b=0:=Nat.div_eq_of_lt (by omega)
   rw [fH hb,e,e2,fH ha]
   have hm2:=Nat.mod_lt b (Nat.pos_of_ne_zero ha)
   show (cs (quo a (b%a)) (0+0*1) (1+b/a*(0+0*1))).1≤(cs (quo a (b%a)) (0+0*1) (1+b/a*(0+0*1))).2
   exact FN _ _ _ (by omega) (IE _ a (Nat.le_of_lt hm2))
theorem ze {s:Bool} {p:Nat}:(alt s p).natAbs=p:=BR s p
theorem azY {a b:Nat} (hla:Sn a 90) (hlb:Sn b 90) (hb:b≠0):((cf (quo a b) 1 0).1).natAbs*(Nat.gcd a b)≤b:=by
 obtain ⟨uQ,vQ,h⟩:=RM.last b a 1 0 0 1 [] (RM.start hla hlb)
 obtain ⟨_,h2,_,_,⟨s,p,q,e1,e2,e3,-⟩,-⟩:=h
 rw [eY] at h2
 have h3:=congrArg Prod.snd h2
 have h4:=anQ (a:=a) hb
 have e:=Vx (quo a b) false 1 0
 rw [show alt false 1=1 from rfl,show alt (!false) 0=0 from rfl] at e
 have k1:((cf (quo a b) 1 0).1).natAbs=(cs (quo a b) 1 0).1:=by rw [e];exact ze
 have k2:((cf (quo a b) 1 0).2).natAbs=(cs (quo a b) 1 0).2:=by rw [e];exact ze
 have k3:uQ.natAbs=q:=by rw [e2];exact ze
 have k4:uQ=(cf (quo a b) 1 0).2:=h3
 rw [k1]
 have k5:(cs (quo a b) 1 0).2=q:=by rw [← k2,← k4,k3]
 rw [k5] at h4
 calc (cs (quo a b) 1 0).1*Nat.gcd a b≤q*Nat.gcd a b:=Nat.mul_le_mul_right _ h4
  _≤b:=by rw [Nat.mul_comm];omega
theorem azZ {a b:Nat} (hla:Sn a 90) (hlb:Sn b 90) (ha:a≠0) (hb:b≠0):((cf (quo a b) 0 1).1).natAbs*(Nat.gcd a b)≤a:=by
 obtain ⟨uQ,vQ,h⟩:=RM.last b a 1 0 0 1 [] (RM.start hla hlb)
 obtain ⟨_,_,h2,_,_,⟨s,p,q,e1,e2,e3,-⟩,-⟩:=h
 rw [eY] at h2
 have h3:=congrArg Prod.snd h2
 have h4:=anR ha hb
 have e:=Vx (quo a b) true 0 1
 rw [show alt true 0=0 from rfl,show alt (!true) 1=1 from rfl] at e
 have k1:((cf (quo a b) 0 1).1).natAbs=(cs (quo a b) 0 1).1:=by rw [e];exact ze
 have k2:((cf (quo a b) 0 1).2).natAbs=(cs (quo a b) 0 1).2:=by rw [e];exact ze
 have k3:vQ.natAbs=q:=by rw [e2];exact ze
 have k4:vQ=(cf (quo a b) 0 1).2:=h3
 rw [k1]
 have k5:(cs (quo a b) 0 1).2=q:=by rw [← k2,← k4,k3]
 rw [k5] at h4
 calc (cs (quo a b) 0 1).1*Nat.gcd a b≤q*Nat.gcd a b:=Nat.mul_le_mul_right _ h4
  _≤a:=by rw [Nat.mul_comm];omega
theorem LC {n m:Nat} (h:n≤m):bQ (n:Int) (m:Int)≤0:=by
 rcases Nat.lt_or_eq_of_le h with h | h
 · rw [fu (by omega)];decide
 · rw [h,fZ];decide
theorem uI (w:World) (jm mV:Value) (a b:Nat) (bn:Un w jm a) (bC:Un w mV b) (hla:Sn a 90) (hlb:Sn b 90) :
  Calls Tryz.prog 15 #[jm,mV] w fun e w'=>∃ g u v,e = .returned (.tuple #[g,u,v])∧Un w' g (Nat.gcd a b)∧Zn w' u (cf (quo a b) 1 0).1∧Zn w' v (cf (quo a b) 0 1).1∧Ext w w':=by
 by_cases h:b=0
 · exact xO w jm mV a b bn bC hla hlb h
 · exact tK w jm mV a b bn bC hla hlb h
namespace EL
theorem qB (u:Array Value) (X:World):(callFunc 12 u).run Tryz.prog X = .ok (.enter 12 u) X:=Pl.enters Tryz.func12 (by kernel_rfl) rfl u X
theorem jh (u:Array Value) (X:World):(callFunc 13 u).run Tryz.prog X = .ok (.enter 13 u) X:=Pl.enters Tryz.func13 (by kernel_rfl) rfl u X
theorem Pj (u:Array Value) (X:World):(callFunc 15 u).run Tryz.prog X = .ok (.enter 15 u) X:=Pl.enters Tryz.func15 (by kernel_rfl) rfl u X
theorem gT (u:Array Value) (X:World):(callFunc 19 u).run Tryz.prog X = .ok (.enter 19 u) X:=Pl.enters Tryz.func19 (by kernel_rfl) rfl u X
theorem Nc (u:Array Value) (X:World):(callFunc 23 u).run Tryz.prog X = .ok (.enter 23 u) X:=Pl.enters Tryz.func23 (by kernel_rfl) rfl u X
theorem adK (u:Array Value) (X:World):(callFunc 29 u).run Tryz.prog X = .ok (.enter 29 u) X:=Pl.enters Tryz.func29 (by kernel_rfl) rfl u X
theorem Nv (u:Array Value) (X:World):(callFunc 30 u).run Tryz.prog X = .ok (.enter 30 u) X:=Pl.enters Tryz.func30 (by kernel_rfl) rfl u X
theorem Zd (u:Array Value) (X:World):(callFunc 31 u).run Tryz.prog X = .ok (.enter 31 u) X:=Pl.enters Tryz.func31 (by kernel_rfl) rfl u X
theorem Qb (u:Array Value) (X:World):(callFunc 32 u).run Tryz.prog X = .ok (.enter 32 u) X:=Pl.enters Tryz.func32 (by kernel_rfl) rfl u X
theorem atZ (u:Array Value) (X:World):(callFunc 34 u).run Tryz.prog X = .ok (.enter 34 u) X:=Pl.enters Tryz.func34 (by kernel_rfl) rfl u X
theorem aiw (u:Array Value) (X:World):(callFunc 35 u).run Tryz.prog X = .ok (.enter 35 u) X:=Pl.enters Tryz.func35 (by kernel_rfl) rfl u X
end EL
open EL
set_option maxRecDepth 100000 in
set_option maxHeartbeats 4000000 in
theorem IG (w:World) (r0:Value) (xa:List Nat) (u0:U w r0 xa) (r1:Value) (xb:List Nat) (u1:U w r1 xb) (a b:Nat) (da:dG xa 30=a) (hla:Sn a 30) (db:dG xb 30=b) (hlb:Sn b 30)  :
  Calls Tryz.prog 6 #[r0,r1] w fun e w'=>e = .returned (.bool true)∧Ext w w':=by
 refine Pl.aV (n:=93) (vs:=[r0,r1]) Tryz.func6 rfl (by kernel_rfl) (by simp) ?_
 refine Pl.az ?_
 refine Pl.ay (by kernel_rfl) ?_
 refine Pl.aj trivial rfl rfl rfl rfl rfl ?_
 refine Pl.ak ?_
 refine Pl.az ?_
 refine Pl.ay (by kernel_rfl) ?_
 refine Pl.aA rfl rfl rfl rfl rfl qB ?_
 refine Calls.mono (pK _) ?_
 rintro e w1 ⟨rfl,hB1⟩
 refine ⟨_,rfl,trivial,?_⟩
 refine Pl.aj trivial rfl rfl rfl rfl rfl ?_
 refine Pl.ak ?_
 refine Pl.az ?_
 refine Pl.ay (by kernel_rfl) ?_
 refine Pl.ah trivial rfl rfl rfl rfl rfl ?_
 have jI:=U.below u0 hB1
 refine Pl.aA rfl rfl rfl rfl rfl jh ?_
 refine Calls.mono (dR _ _ xa 30 jI (by decide) (by decide) a da) ?_
 rintro e w2 ⟨jm,rfl,bn,hB2⟩
 refine ⟨_,rfl,trivial,?_⟩
 refine Pl.aj trivial rfl rfl rfl rfl rfl ?_
 refine Pl.ak ?_
 refine Pl.az ?_
 refine Pl.ay (by kernel_rfl) ?_
 refine Pl.ah trivial rfl rfl rfl rfl rfl ?_
 have jV:=U.below u1 (Ext.below hB1 hB2)
 refine Pl.aA rfl rfl rfl rfl rfl jh ?_
 refine Calls.mono (dR _ _ xb 30 jV (by decide) (by decide) b db) ?_
 rintro e w3 ⟨mV,rfl,bC,hB3⟩
 refine ⟨_,rfl,trivial,?_⟩
 refine Pl.aj trivial rfl rfl rfl rfl rfl ?_
 refine Pl.ak ?_
 refine Pl.az ?_
 refine Pl.ay (by kernel_rfl) ?_
 refine Pl.ah trivial rfl rfl rfl rfl rfl ?_
 refine Pl.ah trivial rfl rfl rfl rfl rfl ?_
 have gM:=Un.below bn hB3
 refine Pl.aA rfl rfl rfl rfl rfl Pj ?_
 refine Calls.mono (uI _ _ _ a b gM bC (Sn.le hla (by decide)) (Sn.le hlb (by decide)) ) ?_
 rintro e w4 ⟨kH,uN,rE,rfl,kZ,lg,mY,hB4⟩
 refine ⟨_,rfl,trivial,?_⟩
 have lK:Sn (Nat.gcd a b) 90:=iD (Sn.le hla (by decide)) (Sn.le hlb (by decide))
 have iU:Sz (cf (quo a b) 1 0).1 90:=Gq (Sn.le hlb (by decide))
 have rF:Sz (cf (quo a b) 0 1).1 90:=uB (Sn.le hla (by decide))
 refine Pl.ah trivial rfl rfl rfl rfl rfl ?_
 refine Pl.aB trivial rfl rfl rfl rfl rfl rfl ?_
 refine Pl.aB trivial rfl rfl rfl rfl rfl rfl ?_
 refine Pl.aB trivial rfl rfl rfl rfl rfl rfl ?_
 refine bI rfl rfl rfl rfl (fun _ _=>trivial) ?_
 intro N7 w5 bH Gv i_7
 refine bI rfl rfl rfl rfl (fun _ _=>trivial) ?_
 intro N8 w6 aZ MX i_8
 refine Pl.aj trivial rfl rfl rfl rfl rfl ?_
 obtain ⟨xP,xg,xQ,xh,rfl⟩:=Zn.sh lg
 have anS:=Ib.ext i_7 aZ
 refine iP rfl rfl rfl rfl rfl rfl anS (fun _ _=>trivial) ?_
 intro w7 anc azz ane I_7
 have bW:=anc _ (Ext.below bH aZ) (Nat.le_trans (Below.size (Ext.refl w4)) Gv)
 have anT:=ane _ _ _ (Nat.ne_of_gt (Nat.lt_of_lt_of_le (Ib.ext i_7 (Ext.refl w5)).1 MX)) i_8
 obtain ⟨ayP,ayQ,ayR,ayS,rfl⟩:=Zn.sh mY
 refine iP rfl rfl rfl rfl rfl rfl anT (fun _ _=>trivial) ?_
 intro w8 ac' ata ada I_8
 have cB:=ac' _ bW (Nat.le_trans (Below.size bH) MX)
 have Nq:=ada _ _ _ (Nat.ne_of_lt (Nat.lt_of_lt_of_le (Ib.ext i_7 (Ext.refl w5)).1 MX)) I_7
 refine Pl.ak ?_
 refine Pl.az ?_
 refine Pl.nK (S:=fun X=>Ext w8 X) fo (Ext.drew (Ext.refl _)) ?_
 generalize w8.drew=w9
 intro eP
 have wO:=eP
 refine Pl.lm 1 1023 (fun l' w'=>∃ (KR:Nat) (abp:Value),l'=[(0,jm),(1,mV),(4,(.bool false)),(5,(.bool true)),(6,kH),(7,.pointer (some ⟨N7,0,none⟩)),(8,.pointer (some ⟨N8,0,none⟩)),(9,.pointer (some ⟨KR,0,none⟩)),(30,abp)]∧Ext w8 w'∧w8.heap.size≤KR∧Ib w' KR false (.slice none 0 0)∧Zn w' abp ((((a:Nat):Int)*(cf (quo a b) 1 0).1)+(((b:Nat):Int)*(cf (quo a b) 0 1).1))) ?_ ?_
 rotate_left
 · intro hK
   refine Pl.aS [(true,0,0),(true,2,1),(true,4,5),(true,6,21)] 85 7 Pl.aD (by kernel_rfl) (by kernel_rfl) (by kernel_rfl) ?_
   refine Pl.ah wO rfl rfl rfl rfl rfl ?_
   refine Pl.aR wO rfl rfl rfl rfl rfl (fun X hX=>Ib.load (Ib.ext Nq hX)) ?_
   refine Pl.ah wO rfl rfl rfl rfl rfl ?_
   refine Pl.aR wO rfl rfl rfl rfl rfl (fun X hX=>Ib.load (Ib.ext I_8 hX)) ?_
   refine Pl.ak ?_
   refine Pl.dY [1,9] 6 (by kernel_rfl) (by kernel_rfl) (by kernel_rfl) (Pl.aJ ?_ (Pl.aJ ?_ Pl.aX))
   · have qM := Un.below gM (Ext.below hB4 (Ext.below cB eP))
     refine Pl.aA rfl rfl rfl rfl rfl Cv ?_
     refine Calls.mono (kD _ _ a qM (Sn.le hla (by decide))) ?_
     rintro e xN ⟨Pe,rfl,wQ,bY⟩
     have fP:=Ext.below wO bY
     refine ⟨_,rfl,fP,?_⟩
     have qp:Sz ((a:Nat):Int) 30:=Sn.sz hla
     refine Pl.ak ?_
     refine Pl.dY [3,9] 5 (by kernel_rfl) (by kernel_rfl) (by kernel_rfl) (Pl.aJ ?_ (Pl.aJ ?_ Pl.aX))
     · have Cw:=Zn.below lg (Ext.below cB (Ext.below eP bY))
       refine Pl.aA rfl rfl rfl rfl rfl Qb ?_
       refine Calls.mono (yx _ _ _ ((a:Nat):Int) ((cf (quo a b) 1 0).1) wQ Cw (Sz.le qp (by decide)) (Sz.le iU (by decide)) _ rfl) ?_
       rintro e AU ⟨nZ,rfl,rX,bX⟩
       have jN:=Ext.below fP bX
       refine ⟨_,rfl,jN,?_⟩
       have iH:Sz (((a:Nat):Int)*(cf (quo a b) 1 0).1) 120:=Sz.mul qp iU (by decide)
       refine Pl.ak ?_
       refine Pl.dY [5,9] 4 (by kernel_rfl) (by kernel_rfl) (by kernel_rfl) (Pl.aJ ?_ (Pl.aJ ?_ Pl.aX))
       · have aix:=Un.below bC (Ext.below hB4 (Ext.below cB (Ext.below eP (Ext.below bY bX))))
         refine Pl.aA rfl rfl rfl rfl rfl Cv ?_
         refine Calls.mono (kD _ _ b aix (Sn.le hlb (by decide))) ?_
         rintro e Kq ⟨zP,rfl,pI,eO⟩
         have tu:=Ext.below jN eO
         refine ⟨_,rfl,tu,?_⟩
         have lY:Sz ((b:Nat):Int) 30:=Sn.sz hlb
         refine Pl.ak ?_
         refine Pl.dY [7,9] 3 (by kernel_rfl) (by kernel_rfl) (by kernel_rfl) (Pl.aJ ?_ (Pl.aJ ?_ Pl.aX))
         · have Cx:=Zn.below mY (Ext.below cB (Ext.below eP (Ext.below bY (Ext.below bX eO))))
           refine Pl.aA rfl rfl rfl rfl rfl Qb ?_
           refine Calls.mono (yx _ _ _ ((b:Nat):Int) ((cf (quo a b) 0 1).1) pI Cx (Sz.le lY (by decide)) (Sz.le rF (by decide)) _ rfl) ?_
           rintro e JZ ⟨wR,rfl,qQ,dP⟩
           have qN:=Ext.below tu dP
           refine ⟨_,rfl,qN,?_⟩
           have qR:Sz (((b:Nat):Int)*(cf (quo a b) 0 1).1) 120:=Sz.mul lY rF (by decide)
           refine Pl.ak ?_
           refine Pl.dY [8,9] 2 (by kernel_rfl) (by kernel_rfl) (by kernel_rfl) (Pl.aJ ?_ (Pl.aJ ?_ Pl.aX))
           · have Ze:=Zn.below rX (Ext.below eO dP)
             refine Pl.aA rfl rfl rfl rfl rfl Zd ?_
             refine Calls.mono (Qc _ _ _ (((a:Nat):Int)*(cf (quo a b) 1 0).1) (((b:Nat):Int)*(cf (quo a b) 0 1).1) Ze qQ (Sz.le iH (by decide)) (Sz.le qR (by decide)) _ rfl) ?_
             rintro e Ie ⟨Qd,rfl,II,dO⟩
             have mo:=Ext.below qN dO
             refine ⟨_,rfl,mo,?_⟩
             have EM:Sz ((((a:Nat):Int)*(cf (quo a b) 1 0).1)+(((b:Nat):Int)*(cf (quo a b) 0 1).1)) 121:=Sz.add iH qR (by decide) (by decide)
             refine Pl.ak ?_
             refine Pl.aS [(false,9,511)] 1023 1 Pl.aD (by kernel_rfl) (by kernel_rfl) (by kernel_rfl) ?_
             refine bI rfl rfl rfl rfl (fun _ k=>Ext.below mo k) ?_
             intro N20 EA dX at0 az0
             have xw:=Ext.below mo dX
             refine Pl.ak ?_
             have Zf:=Zn.below II dX
             exact Pl.bK [(0,jm),(1,mV),(4,(.bool false)),(5,(.bool true)),(6,kH),(7,.pointer (some ⟨N7,0,none⟩)),(8,.pointer (some ⟨N8,0,none⟩)),(9,.pointer (some ⟨N20,0,none⟩)),(30,Qd)] (Pl.aa rfl (Pl.aa rfl (Pl.aa rfl (Pl.aa rfl (Pl.aa rfl (Pl.aa rfl (Pl.aa rfl (Pl.aa rfl (Pl.aa rfl Pl.aK))))))))) (hK _ _ ⟨N20,Qd,rfl,(Ext.below eP (Ext.below bY (Ext.below bX (Ext.below eO (Ext.below dP (Ext.below dO dX)))))),(Nat.le_trans (Below.size (Ext.below eP (Ext.below bY (Ext.below bX (Ext.below eO (Ext.below dP dO)))))) at0),az0,Zf⟩)
           · refine bI rfl rfl rfl rfl (fun _ k=>Ext.below qN k) ?_
             intro N18 Ie dO adL adM
             have mo:=Ext.below qN dO
             refine Pl.ak ?_
             refine Pl.aS [(false,8,767)] 1023 1 Pl.aD (by kernel_rfl) (by kernel_rfl) (by kernel_rfl) ?_
             have vD:=Zn.below rX (Ext.below eO (Ext.below dP dO))
             have Zg:=Zn.below qQ dO
             refine Pl.aA rfl rfl rfl rfl rfl Zd ?_
             refine Calls.mono (Qc _ _ _ (((a:Nat):Int)*(cf (quo a b) 1 0).1) (((b:Nat):Int)*(cf (quo a b) 0 1).1) vD Zg (Sz.le iH (by decide)) (Sz.le qR (by decide)) _ rfl) ?_
             rintro e EA ⟨wU,rfl,vo,dX⟩
             have xw:=Ext.below mo dX
             refine ⟨_,rfl,xw,?_⟩
             have Lu:Sz ((((a:Nat):Int)*(cf (quo a b) 1 0).1)+(((b:Nat):Int)*(cf (quo a b) 0 1).1)) 121:=Sz.add iH qR (by decide) (by decide)
             refine Pl.ak ?_
             have adN:=Ib.ext adM dX
             exact Pl.bK [(0,jm),(1,mV),(4,(.bool false)),(5,(.bool true)),(6,kH),(7,.pointer (some ⟨N7,0,none⟩)),(8,.pointer (some ⟨N8,0,none⟩)),(9,.pointer (some ⟨N18,0,none⟩)),(30,wU)] (Pl.aa rfl (Pl.aa rfl (Pl.aa rfl (Pl.aa rfl (Pl.aa rfl (Pl.aa rfl (Pl.aa rfl (Pl.aa rfl (Pl.aa rfl Pl.aK))))))))) (hK _ _ ⟨N18,wU,rfl,(Ext.below eP (Ext.below bY (Ext.below bX (Ext.below eO (Ext.below dP (Ext.below dO dX)))))),(Nat.le_trans (Below.size (Ext.below eP (Ext.below bY (Ext.below bX (Ext.below eO dP))))) adL),adN,vo⟩)
         · refine bI rfl rfl rfl rfl (fun _ k=>Ext.below tu k) ?_
           intro Sc JZ dP Pf Sd
           have qN:=Ext.below tu dP
           refine Pl.ak ?_
           refine Pl.aS [(false,7,639),(false,8,767)] 1023 1 Pl.aD (by kernel_rfl) (by kernel_rfl) (by kernel_rfl) ?_
           have Zh:=Zn.below pI dP
           have oW:=Zn.below mY (Ext.below cB (Ext.below eP (Ext.below bY (Ext.below bX (Ext.below eO dP)))))
           refine Pl.aA rfl rfl rfl rfl rfl Qb ?_
           refine Calls.mono (yx _ _ _ ((b:Nat):Int) ((cf (quo a b) 0 1).1) Zh oW (Sz.le lY (by decide)) (Sz.le rF (by decide)) _ rfl) ?_
           rintro e Ie ⟨Qd,rfl,II,dO⟩
           have mo:=Ext.below qN dO
           refine ⟨_,rfl,mo,?_⟩
           have EM:Sz (((b:Nat):Int)*(cf (quo a b) 0 1).1) 120:=Sz.mul lY rF (by decide)
           have vD:=Zn.below rX (Ext.below eO (Ext.below dP dO))
           refine Pl.aA rfl rfl rfl rfl rfl Zd ?_
           refine Calls.mono (Qc _ _ _ (((a:Nat):Int)*(cf (quo a b) 1 0).1) (((b:Nat):Int)*(cf (quo a b) 0 1).1) vD II (Sz.le iH (by decide)) (Sz.le EM (by decide)) _ rfl) ?_
           rintro e EA ⟨wU,rfl,vo,dX⟩
           have xw:=Ext.below mo dX
           refine ⟨_,rfl,xw,?_⟩
           have Lu:Sz ((((a:Nat):Int)*(cf (quo a b) 1 0).1)+(((b:Nat):Int)*(cf (quo a b) 0 1).1)) 121:=Sz.add iH EM (by decide) (by decide)
           refine Pl.ak ?_
           have adO:=Ib.ext Sd (Ext.below dO dX)
           exact Pl.bK [(0,jm),(1,mV),(4,(.bool false)),(5,(.bool true)),(6,kH),(7,.pointer (some ⟨N7,0,none⟩)),(8,.pointer (some ⟨N8,0,none⟩)),(9,.pointer (some ⟨Sc,0,none⟩)),(30,wU)] (Pl.aa rfl (Pl.aa rfl (Pl.aa rfl (Pl.aa rfl (Pl.aa rfl (Pl.aa rfl (Pl.aa rfl (Pl.aa rfl (Pl.aa rfl Pl.aK))))))))) (hK _ _ ⟨Sc,wU,rfl,(Ext.below eP (Ext.below bY (Ext.below bX (Ext.below eO (Ext.below dP (Ext.below dO dX)))))),(Nat.le_trans (Below.size (Ext.below eP (Ext.below bY (Ext.below bX eO)))) Pf),adO,vo⟩)
       · refine bI rfl rfl rfl rfl (fun _ k=>Ext.below jN k) ?_
         intro N14 Kq eO abr alV
         have tu:=Ext.below jN eO
         refine Pl.ak ?_
         refine Pl.aS [(false,5,607),(false,7,639),(false,8,767)] 1023 1 Pl.aD (by kernel_rfl) (by kernel_rfl) (by kernel_rfl) ?_
         have Cy:=Un.below bC (Ext.below hB4 (Ext.below cB (Ext.below eP (Ext.below bY (Ext.below bX eO)))))
         refine Pl.aA rfl rfl rfl rfl rfl Cv ?_
         refine Calls.mono (kD _ _ b Cy (Sn.le hlb (by decide))) ?_
         rintro e JZ ⟨tO,rfl,og,dP⟩
         have qN:=Ext.below tu dP
         refine ⟨_,rfl,qN,?_⟩
         have tQ:Sz ((b:Nat):Int) 30:=Sn.sz hlb
         have oW:=Zn.below mY (Ext.below cB (Ext.below eP (Ext.below bY (Ext.below bX (Ext.below eO dP)))))
         refine Pl.aA rfl rfl rfl rfl rfl Qb ?_
         refine Calls.mono (yx _ _ _ ((b:Nat):Int) ((cf (quo a b) 0 1).1) og oW (Sz.le tQ (by decide)) (Sz.le rF (by decide)) _ rfl) ?_
         rintro e Ie ⟨akD,rfl,Qe,dO⟩
         have mo:=Ext.below qN dO
         refine ⟨_,rfl,mo,?_⟩
         have LD:Sz (((b:Nat):Int)*(cf (quo a b) 0 1).1) 120:=Sz.mul tQ rF (by decide)
         have vD:=Zn.below rX (Ext.below eO (Ext.below dP dO))
         refine Pl.aA rfl rfl rfl rfl rfl Zd ?_
         refine Calls.mono (Qc _ _ _ (((a:Nat):Int)*(cf (quo a b) 1 0).1) (((b:Nat):Int)*(cf (quo a b) 0 1).1) vD Qe (Sz.le iH (by decide)) (Sz.le LD (by decide)) _ rfl) ?_
         rintro e EA ⟨IJ,rfl,LF,dX⟩
         have xw:=Ext.below mo dX
         refine ⟨_,rfl,xw,?_⟩
         have adP:Sz ((((a:Nat):Int)*(cf (quo a b) 1 0).1)+(((b:Nat):Int)*(cf (quo a b) 0 1).1)) 121:=Sz.add iH LD (by decide) (by decide)
         refine Pl.ak ?_
         have adQ:=Ib.ext alV (Ext.below dP (Ext.below dO dX))
         exact Pl.bK [(0,jm),(1,mV),(4,(.bool false)),(5,(.bool true)),(6,kH),(7,.pointer (some ⟨N7,0,none⟩)),(8,.pointer (some ⟨N8,0,none⟩)),(9,.pointer (some ⟨N14,0,none⟩)),(30,IJ)] (Pl.aa rfl (Pl.aa rfl (Pl.aa rfl (Pl.aa rfl (Pl.aa rfl (Pl.aa rfl (Pl.aa rfl (Pl.aa rfl (Pl.aa rfl Pl.aK))))))))) (hK _ _ ⟨N14,IJ,rfl,(Ext.below eP (Ext.below bY (Ext.below bX (Ext.below eO (Ext.below dP (Ext.below dO dX)))))),(Nat.le_trans (Below.size (Ext.below eP (Ext.below bY bX))) abr),adQ,LF⟩)
     · refine bI rfl rfl rfl rfl (fun _ k=>Ext.below fP k) ?_
       intro N12 AU bX Gw Si
       have jN:=Ext.below fP bX
       refine Pl.ak ?_
       refine Pl.aS [(false,3,599),(false,5,607),(false,7,639),(false,8,767)] 1023 1 Pl.aD (by kernel_rfl) (by kernel_rfl) (by kernel_rfl) ?_
       have Zi:=Zn.below wQ bX
       have IK:=Zn.below lg (Ext.below cB (Ext.below eP (Ext.below bY bX)))
       refine Pl.aA rfl rfl rfl rfl rfl Qb ?_
       refine Calls.mono (yx _ _ _ ((a:Nat):Int) ((cf (quo a b) 1 0).1) Zi IK (Sz.le qp (by decide)) (Sz.le iU (by decide)) _ rfl) ?_
       rintro e Kq ⟨zP,rfl,pI,eO⟩
       have tu:=Ext.below jN eO
       refine ⟨_,rfl,tu,?_⟩
       have lY:Sz (((a:Nat):Int)*(cf (quo a b) 1 0).1) 120:=Sz.mul qp iU (by decide)
       have Cy:=Un.below bC (Ext.below hB4 (Ext.below cB (Ext.below eP (Ext.below bY (Ext.below bX eO)))))
       refine Pl.aA rfl rfl rfl rfl rfl Cv ?_
       refine Calls.mono (kD _ _ b Cy (Sn.le hlb (by decide))) ?_
       rintro e JZ ⟨wR,rfl,qQ,dP⟩
       have qN:=Ext.below tu dP
       refine ⟨_,rfl,qN,?_⟩
       have qR:Sz ((b:Nat):Int) 30:=Sn.sz hlb
       have oW:=Zn.below mY (Ext.below cB (Ext.below eP (Ext.below bY (Ext.below bX (Ext.below eO dP)))))
       refine Pl.aA rfl rfl rfl rfl rfl Qb ?_
       refine Calls.mono (yx _ _ _ ((b:Nat):Int) ((cf (quo a b) 0 1).1) qQ oW (Sz.le qR (by decide)) (Sz.le rF (by decide)) _ rfl) ?_
       rintro e Ie ⟨Qd,rfl,II,dO⟩
       have mo:=Ext.below qN dO
       refine ⟨_,rfl,mo,?_⟩
       have EM:Sz (((b:Nat):Int)*(cf (quo a b) 0 1).1) 120:=Sz.mul qR rF (by decide)
       have Zj:=Zn.below pI (Ext.below dP dO)
       refine Pl.aA rfl rfl rfl rfl rfl Zd ?_
       refine Calls.mono (Qc _ _ _ (((a:Nat):Int)*(cf (quo a b) 1 0).1) (((b:Nat):Int)*(cf (quo a b) 0 1).1) Zj II (Sz.le lY (by decide)) (Sz.le EM (by decide)) _ rfl) ?_
       rintro e EA ⟨wU,rfl,vo,dX⟩
       have xw:=Ext.below mo dX
       refine ⟨_,rfl,xw,?_⟩
       have Lu:Sz ((((a:Nat):Int)*(cf (quo a b) 1 0).1)+(((b:Nat):Int)*(cf (quo a b) 0 1).1)) 121:=Sz.add lY EM (by decide) (by decide)
       refine Pl.ak ?_
       have adR:=Ib.ext Si (Ext.below eO (Ext.below dP (Ext.below dO dX)))
       exact Pl.bK [(0,jm),(1,mV),(4,(.bool false)),(5,(.bool true)),(6,kH),(7,.pointer (some ⟨N7,0,none⟩)),(8,.pointer (some ⟨N8,0,none⟩)),(9,.pointer (some ⟨N12,0,none⟩)),(30,wU)] (Pl.aa rfl (Pl.aa rfl (Pl.aa rfl (Pl.aa rfl (Pl.aa rfl (Pl.aa rfl (Pl.aa rfl (Pl.aa rfl (Pl.aa rfl Pl.aK))))))))) (hK _ _ ⟨N12,wU,rfl,(Ext.below eP (Ext.below bY (Ext.below bX (Ext.below eO (Ext.below dP (Ext.below dO dX)))))),(Nat.le_trans (Below.size (Ext.below eP bY)) Gw),adR,vo⟩)
   · refine bI rfl rfl rfl rfl (fun _ k=>Ext.below wO k) ?_
     intro MV xN bY BU MW
     have fP:=Ext.below wO bY
     refine Pl.ak ?_
     refine Pl.aS [(false,1,597),(false,3,599),(false,5,607),(false,7,639),(false,8,767)] 1023 1 Pl.aD (by kernel_rfl) (by kernel_rfl) (by kernel_rfl) ?_
     have aiy:=Un.below gM (Ext.below hB4 (Ext.below cB (Ext.below eP bY)))
     refine Pl.aA rfl rfl rfl rfl rfl Cv ?_
     refine Calls.mono (kD _ _ a aiy (Sn.le hla (by decide))) ?_
     rintro e AU ⟨zQ,rfl,qw,bX⟩
     have jN:=Ext.below fP bX
     refine ⟨_,rfl,jN,?_⟩
     have pJ:Sz ((a:Nat):Int) 30:=Sn.sz hla
     have IK:=Zn.below lg (Ext.below cB (Ext.below eP (Ext.below bY bX)))
     refine Pl.aA rfl rfl rfl rfl rfl Qb ?_
     refine Calls.mono (yx _ _ _ ((a:Nat):Int) ((cf (quo a b) 1 0).1) qw IK (Sz.le pJ (by decide)) (Sz.le iU (by decide)) _ rfl) ?_
     rintro e Kq ⟨Gx,rfl,qx,eO⟩
     have tu:=Ext.below jN eO
     refine ⟨_,rfl,tu,?_⟩
     have tN:Sz (((a:Nat):Int)*(cf (quo a b) 1 0).1) 120:=Sz.mul pJ iU (by decide)
     have Cy:=Un.below bC (Ext.below hB4 (Ext.below cB (Ext.below eP (Ext.below bY (Ext.below bX eO)))))
     refine Pl.aA rfl rfl rfl rfl rfl Cv ?_
     refine Calls.mono (kD _ _ b Cy (Sn.le hlb (by decide))) ?_
     rintro e JZ ⟨tO,rfl,og,dP⟩
     have qN:=Ext.below tu dP
     refine ⟨_,rfl,qN,?_⟩
     have tQ:Sz ((b:Nat):Int) 30:=Sn.sz hlb
     have oW:=Zn.below mY (Ext.below cB (Ext.below eP (Ext.below bY (Ext.below bX (Ext.below eO dP)))))
     refine Pl.aA rfl rfl rfl rfl rfl Qb ?_
     refine Calls.mono (yx _ _ _ ((b:Nat):Int) ((cf (quo a b) 0 1).1) og oW (Sz.le tQ (by decide)) (Sz.le rF (by decide)) _ rfl) ?_
     rintro e Ie ⟨akD,rfl,Qe,dO⟩
     have mo:=Ext.below qN dO
     refine ⟨_,rfl,mo,?_⟩
     have LD:Sz (((b:Nat):Int)*(cf (quo a b) 0 1).1) 120:=Sz.mul tQ rF (by decide)
     have Zk:=Zn.below qx (Ext.below dP dO)
     refine Pl.aA rfl rfl rfl rfl rfl Zd ?_
     refine Calls.mono (Qc _ _ _ (((a:Nat):Int)*(cf (quo a b) 1 0).1) (((b:Nat):Int)*(cf (quo a b) 0 1).1) Zk Qe (Sz.le tN (by decide)) (Sz.le LD (by decide)) _ rfl) ?_
     rintro e EA ⟨IJ,rfl,LF,dX⟩
     have xw:=Ext.below mo dX
     refine ⟨_,rfl,xw,?_⟩
     have adP:Sz ((((a:Nat):Int)*(cf (quo a b) 1 0).1)+(((b:Nat):Int)*(cf (quo a b) 0 1).1)) 121:=Sz.add tN LD (by decide) (by decide)
     refine Pl.ak ?_
     have adS:=Ib.ext MW (Ext.below bX (Ext.below eO (Ext.below dP (Ext.below dO dX))))
     exact Pl.bK [(0,jm),(1,mV),(4,(.bool false)),(5,(.bool true)),(6,kH),(7,.pointer (some ⟨N7,0,none⟩)),(8,.pointer (some ⟨N8,0,none⟩)),(9,.pointer (some ⟨MV,0,none⟩)),(30,IJ)] (Pl.aa rfl (Pl.aa rfl (Pl.aa rfl (Pl.aa rfl (Pl.aa rfl (Pl.aa rfl (Pl.aa rfl (Pl.aa rfl (Pl.aa rfl Pl.aK))))))))) (hK _ _ ⟨MV,IJ,rfl,(Ext.below eP (Ext.below bY (Ext.below bX (Ext.below eO (Ext.below dP (Ext.below dO dX)))))),(Nat.le_trans (Below.size eP) BU),adS,LF⟩)
 rintro _ Yi ⟨az1,aqt,rfl,jo,IL,adT,LG⟩
 have lZ:=jo
 have qp:Sz ((a:Nat):Int) 30:=Sn.sz hla
 have iH:Sz (((a:Nat):Int)*(cf (quo a b) 1 0).1) 120:=Sz.mul qp iU (by decide)
 have lY:Sz ((b:Nat):Int) 30:=Sn.sz hlb
 have qR:Sz (((b:Nat):Int)*(cf (quo a b) 0 1).1) 120:=Sz.mul lY rF (by decide)
 have EM:Sz ((((a:Nat):Int)*(cf (quo a b) 1 0).1)+(((b:Nat):Int)*(cf (quo a b) 0 1).1)) 121:=Sz.add iH qR (by decide) (by decide)
 refine Pl.aS [(false,10,1023)] 2047 0 Pl.aD (by kernel_rfl) (by kernel_rfl) (by kernel_rfl) ?_
 obtain ⟨aqu,aqv,aqw,aqx,rfl⟩:=Zn.sh LG
 refine iP rfl rfl rfl rfl rfl rfl adT (fun _ T=>T _ lZ (Nat.le_trans (Below.size (Ext.refl w8)) IL)) ?_
 intro MZ adU anU az2 at1
 have jd:=adU _ jo (Nat.le_trans (Below.size (Ext.refl w8)) IL)
 have om:=adU _ lZ (Nat.le_trans (Below.size (Ext.refl w8)) IL)
 have IM:=anU _ _ LG
 refine Pl.ak ?_
 refine Pl.G_V (by kernel_rfl) ?_
 refine Pl.az ?_
 refine Pl.az ?_
 refine Pl.iN (S:=fun X=>Ext MZ X) [(true,0,0),(true,1,1),(false,2,3),(false,3,7),(true,4,15),(true,5,31),(true,6,63),(true,7,127),(false,8,255),(true,9,511),(true,10,1023),(true,11,2047),(true,12,4095),(true,13,8191),(false,14,16383),(true,15,32767),(true,16,65535),(true,17,131071),(true,18,262143),(false,19,524287),(true,20,1048575),(true,21,2097151),(true,22,4194303),(true,23,8388607),(false,24,16777215),(true,25,33554431),(true,26,67108863)] fo Pl.aD (by kernel_rfl) (Ext.drew (Ext.refl MZ)) ?_
 generalize MZ.drew=alX
 intro lN
 have tV:=lN
 refine Pl.aR tV rfl rfl rfl rfl rfl (fun X hX=>Ib.load (Ib.ext at1 hX)) ?_
 refine Pl.ah tV rfl rfl rfl rfl rfl ?_
 have LH:=Un.below kZ (Ext.below cB (Ext.below jd lN))
 refine Pl.aA rfl rfl rfl rfl rfl Cv ?_
 refine Calls.mono (kD _ _ (Nat.gcd a b) LH (Sn.le lK (by decide))) ?_
 rintro e aGz ⟨abD,rfl,abE,wV⟩
 have akE:=Ext.below tV wV
 refine ⟨_,rfl,akE,?_⟩
 have aj8:Sz (((Nat.gcd a b):Nat):Int) 90:=Sn.sz lK
 have IP:=Zn.below IM (Ext.below lN wV)
 refine Pl.aA rfl rfl rfl rfl rfl Nc ?_
 refine Calls.mono (DY _ _ _ ((((a:Nat):Int)*(cf (quo a b) 1 0).1)+(((b:Nat):Int)*(cf (quo a b) 0 1).1)) (((Nat.gcd a b):Nat):Int) IP abE (Sz.le EM (by decide)) (Sz.le aj8 (by decide)) true (decide_eq_true (atY a b))) ?_
 rintro e aGA ⟨rfl,yz⟩
 have LJ:=Ext.below akE yz
 refine ⟨_,rfl,LJ,?_⟩
 refine Pl.nY (v:=(.bool false)) LJ rfl rfl rfl rfl rfl (fun X=>rfl) ?_
 refine Pl.ah LJ rfl rfl rfl rfl rfl ?_
 refine Pl.ah LJ rfl rfl rfl rfl rfl ?_
 refine Pl.ah LJ rfl rfl rfl rfl rfl ?_
 have LK:=Un.below LH (Ext.below wV yz)
 have sQ:=Un.below gM (Ext.below hB4 (Ext.below cB (Ext.below jd (Ext.below lN (Ext.below wV yz)))))
 refine Pl.aA rfl rfl rfl rfl rfl adK ?_
 refine Calls.mono (ng _ _ _ (Nat.gcd a b) a LK sQ (Sn.le lK (by decide)) (Sn.le hla (by decide)) true (decide_eq_true (Nat.gcd_dvd_left _ _))) ?_
 rintro e aGB ⟨rfl,vE⟩
 have IQ:=Ext.below LJ vE
 refine ⟨_,rfl,IQ,?_⟩
 refine Pl.nY (v:=(.bool false)) IQ rfl rfl rfl rfl rfl (fun X=>rfl) ?_
 refine Pl.aO IQ rfl rfl rfl rfl rfl rfl ?_
 refine Pl.ah IQ rfl rfl rfl rfl rfl ?_
 refine Pl.ah IQ rfl rfl rfl rfl rfl ?_
 refine Pl.ah IQ rfl rfl rfl rfl rfl ?_
 have zf:=Un.below LK vE
 have vF:=Un.below bC (Ext.below hB4 (Ext.below cB (Ext.below jd (Ext.below lN (Ext.below wV (Ext.below yz vE))))))
 refine Pl.aA rfl rfl rfl rfl rfl adK ?_
 refine Calls.mono (ng _ _ _ (Nat.gcd a b) b zf vF (Sn.le lK (by decide)) (Sn.le hlb (by decide)) true (decide_eq_true (Nat.gcd_dvd_right _ _))) ?_
 rintro e aGC ⟨rfl,qC⟩
 have LM:=Ext.below IQ qC
 refine ⟨_,rfl,LM,?_⟩
 refine Pl.nY (v:=(.bool false)) LM rfl rfl rfl rfl rfl (fun X=>rfl) ?_
 refine Pl.aO LM rfl rfl rfl rfl rfl rfl ?_
 refine Pl.ah LM rfl rfl rfl rfl rfl ?_
 have Qf:=Ib.ext Nq jd
 refine Pl.aR LM rfl rfl rfl rfl rfl (fun X hX=>Ib.load (Ib.ext Qf hX)) ?_
 have LP:=Zn.below lg (Ext.below cB (Ext.below jd (Ext.below lN (Ext.below wV (Ext.below yz (Ext.below vE qC))))))
 refine Pl.aA rfl rfl rfl rfl rfl atZ ?_
 refine Calls.mono (aiz _ _ _ _ (Zn.ri LP) true (Qa iU (by decide))) ?_
 rintro e aGD ⟨rfl,qD⟩
 have LQ:=Ext.below LM qD
 refine ⟨_,rfl,LQ,?_⟩
 refine Pl.nY (v:=(.bool false)) LQ rfl rfl rfl rfl rfl (fun X=>rfl) ?_
 refine Pl.aO LQ rfl rfl rfl rfl rfl rfl ?_
 refine Pl.ah LQ rfl rfl rfl rfl rfl ?_
 have Qg:=Ib.ext I_8 jd
 refine Pl.aR LQ rfl rfl rfl rfl rfl (fun X hX=>Ib.load (Ib.ext Qg hX)) ?_
 have LU:=Zn.below mY (Ext.below cB (Ext.below jd (Ext.below lN (Ext.below wV (Ext.below yz (Ext.below vE (Ext.below qC qD)))))))
 refine Pl.aA rfl rfl rfl rfl rfl atZ ?_
 refine Calls.mono (aiz _ _ _ _ (Zn.ri LU) true (Qa rF (by decide))) ?_
 rintro e aGE ⟨rfl,qE⟩
 have adV:=Ext.below LQ qE
 refine ⟨_,rfl,adV,?_⟩
 refine Pl.nY (v:=(.bool false)) adV rfl rfl rfl rfl rfl (fun X=>rfl) ?_
 refine Pl.aO adV rfl rfl rfl rfl rfl rfl ?_
 refine Pl.ak ?_
 refine Pl.bD rfl ?_
 refine Pl.bN ?_
 refine Pl.az ?_
 refine Pl.az ?_
 by_cases ha0:a=0
 · refine Pl.ay (by kernel_rfl) ?_
   refine Pl.ah trivial rfl rfl rfl rfl rfl ?_
   obtain ⟨Wj,Wl,rfl,-⟩:=Un.sh sQ
   refine bG trivial rfl rfl rfl rfl rfl ?_
   refine Pl.aI (v:=(.bool true)) trivial rfl rfl rfl rfl rfl rfl (fun X=>fV (dN.trans (decide_eq_true ha0)) X) ?_
   refine Pl.ah trivial rfl rfl rfl rfl rfl ?_
   refine Pl.ed rfl rfl rfl ?_
   refine Pl.ed rfl rfl rfl ?_
   refine Pl.ed rfl rfl rfl ?_
   refine Pl.aO trivial rfl rfl rfl rfl rfl rfl ?_
   refine Pl.ak ?_
   refine Pl.dh rfl ?_
   refine Pl.az ?_
   refine Pl.ay (by kernel_rfl) ?_
   refine Pl.ah trivial rfl rfl rfl rfl rfl ?_
   refine Pl.ah trivial rfl rfl rfl rfl rfl ?_
   refine Pl.ah trivial rfl rfl rfl rfl rfl ?_
   have IU:=Un.below sQ (Ext.below vE (Ext.below qC (Ext.below qD qE)))
   have IV:=Un.below vF (Ext.below qC (Ext.below qD qE))
   refine Pl.aA rfl rfl rfl rfl rfl Nv ?_
   refine Calls.mono (wm _ _ _ a b IU IV (Sn.le hla (by decide)) (Sn.le hlb (by decide)) _ rfl) ?_
   rintro e at5 ⟨at6,rfl,adW,wW⟩
   refine ⟨_,rfl,trivial,?_⟩
   have at7:Sn (a+b) 31:=Sn.add hla hlb (by decide) (by decide)
   have D7:=Un.below zf (Ext.below qC (Ext.below qD (Ext.below qE wW)))
   refine Pl.aA rfl rfl rfl rfl rfl EL.gT ?_
   refine Calls.mono (eZ _ _ _ (Nat.gcd a b) (a+b) D7 adW true (decide_eq_true (anO ha0))) ?_
   rintro e aua ⟨rfl,Cz⟩
   refine ⟨_,rfl,trivial,?_⟩
   refine Pl.ah trivial rfl rfl rfl rfl rfl ?_
   refine Pl.ah trivial rfl rfl rfl rfl rfl ?_
   refine Pl.aO trivial rfl rfl rfl rfl rfl rfl ?_
   refine Pl.aj trivial rfl rfl rfl rfl rfl ?_
   refine Pl.ak ?_
   refine Pl.bU rfl rfl ?_
   exact ⟨rfl,(Ext.below hB1 (Ext.below hB2 (Ext.below hB3 (Ext.below hB4 (Ext.below cB (Ext.below jd (Ext.below lN (Ext.below wV (Ext.below yz (Ext.below vE (Ext.below qC (Ext.below qD (Ext.below qE (Ext.below wW Cz))))))))))))))⟩
 · by_cases hb0:b=0
   · refine Pl.ay (by kernel_rfl) ?_
     refine Pl.ah trivial rfl rfl rfl rfl rfl ?_
     obtain ⟨Wj,Wl,rfl,-⟩:=Un.sh sQ
     refine bG trivial rfl rfl rfl rfl rfl ?_
     refine Pl.aI (v:=(.bool false)) trivial rfl rfl rfl rfl rfl rfl (fun X=>fV (dN.trans (decide_eq_false ha0)) X) ?_
     refine Pl.ah trivial rfl rfl rfl rfl rfl ?_
     refine Pl.ah trivial rfl rfl rfl rfl rfl ?_
     obtain ⟨Ke,Kg,rfl,-⟩:=Un.sh vF
     refine bG trivial rfl rfl rfl rfl rfl ?_
     refine Pl.aI (v:=(.bool true)) trivial rfl rfl rfl rfl rfl rfl (fun X=>fV (dN.trans (decide_eq_true hb0)) X) ?_
     refine Pl.aO trivial rfl rfl rfl rfl rfl rfl ?_
     refine Pl.ak ?_
     refine Pl.dh rfl ?_
     refine Pl.az ?_
     refine Pl.ay (by kernel_rfl) ?_
     refine Pl.ah trivial rfl rfl rfl rfl rfl ?_
     refine Pl.ah trivial rfl rfl rfl rfl rfl ?_
     refine Pl.ah trivial rfl rfl rfl rfl rfl ?_
     have IU:=Un.below sQ (Ext.below vE (Ext.below qC (Ext.below qD qE)))
     have IV:=Un.below vF (Ext.below qC (Ext.below qD qE))
     refine Pl.aA rfl rfl rfl rfl rfl Nv ?_
     refine Calls.mono (wm _ _ _ a b IU IV (Sn.le hla (by decide)) (Sn.le hlb (by decide)) _ rfl) ?_
     rintro e at5 ⟨at6,rfl,adW,wW⟩
     refine ⟨_,rfl,trivial,?_⟩
     have at7:Sn (a+b) 31:=Sn.add hla hlb (by decide) (by decide)
     have D7:=Un.below zf (Ext.below qC (Ext.below qD (Ext.below qE wW)))
     refine Pl.aA rfl rfl rfl rfl rfl EL.gT ?_
     refine Calls.mono (eZ _ _ _ (Nat.gcd a b) (a+b) D7 adW true (decide_eq_true (anP hb0))) ?_
     rintro e aua ⟨rfl,Cz⟩
     refine ⟨_,rfl,trivial,?_⟩
     refine Pl.ah trivial rfl rfl rfl rfl rfl ?_
     refine Pl.ah trivial rfl rfl rfl rfl rfl ?_
     refine Pl.aO trivial rfl rfl rfl rfl rfl rfl ?_
     refine Pl.aj trivial rfl rfl rfl rfl rfl ?_
     refine Pl.ak ?_
     refine Pl.bU rfl rfl ?_
     exact ⟨rfl,(Ext.below hB1 (Ext.below hB2 (Ext.below hB3 (Ext.below hB4 (Ext.below cB (Ext.below jd (Ext.below lN (Ext.below wV (Ext.below yz (Ext.below vE (Ext.below qC (Ext.below qD (Ext.below qE (Ext.below wW Cz))))))))))))))⟩
   · refine Pl.ay (by kernel_rfl) ?_
     refine Pl.ah trivial rfl rfl rfl rfl rfl ?_
     obtain ⟨Wj,Wl,rfl,-⟩:=Un.sh sQ
     refine bG trivial rfl rfl rfl rfl rfl ?_
     refine Pl.aI (v:=(.bool false)) trivial rfl rfl rfl rfl rfl rfl (fun X=>fV (dN.trans (decide_eq_false ha0)) X) ?_
     refine Pl.ah trivial rfl rfl rfl rfl rfl ?_
     refine Pl.ah trivial rfl rfl rfl rfl rfl ?_
     obtain ⟨Ke,Kg,rfl,-⟩:=Un.sh vF
     refine bG trivial rfl rfl rfl rfl rfl ?_
     refine Pl.aI (v:=(.bool false)) trivial rfl rfl rfl rfl rfl rfl (fun X=>fV (dN.trans (decide_eq_false hb0)) X) ?_
     refine Pl.aO trivial rfl rfl rfl rfl rfl rfl ?_
     refine Pl.ak ?_
     refine Pl.bD rfl ?_
     refine Pl.bN ?_
     refine Pl.az ?_
     refine Pl.ay (by kernel_rfl) ?_
     refine bg trivial rfl rfl rfl rfl rfl (M6 _) ?_
     have adX:=Ib.ext Qf (Ext.below lN (Ext.below wV (Ext.below yz (Ext.below vE (Ext.below qC (Ext.below qD qE))))))
     refine Pl.aH trivial rfl rfl rfl rfl rfl (Ib.mag adX) ?_
     have Zl:=Zn.below LP (Ext.below qD qE)
     have anV:=Zn.mag Zl
     refine Pl.ah trivial rfl rfl rfl rfl rfl ?_
     have LV:=Un.below zf (Ext.below qC (Ext.below qD qE))
     refine Pl.aA rfl rfl rfl rfl rfl qL ?_
     refine Calls.mono (kP _ _ _ (((cf (quo a b) 1 0).1).natAbs) (Nat.gcd a b) _ anV LV (Sn.le (Sz.sn iU) (by decide)) (Sn.le lK (by decide)) rfl) ?_
     rintro e at5 ⟨aC6,rfl,aub,wW⟩
     refine ⟨_,rfl,trivial,?_⟩
     have auc:Sn (((cf (quo a b) 1 0).1).natAbs*(Nat.gcd a b)) 180:=Sn.mul (Sz.sn iU) lK (by decide)
     refine Pl.ah trivial rfl rfl rfl rfl rfl ?_
     have adY:=Un.below vF (Ext.below qC (Ext.below qD (Ext.below qE wW)))
     refine Pl.aA rfl rfl rfl rfl rfl aiw ?_
     refine Calls.mono (Nu _ _ _ (((cf (quo a b) 1 0).1).natAbs*(Nat.gcd a b)) b aub adY (Sn.le auc (by decide)) (Sn.le hlb (by decide)) (bQ ((((cf (quo a b) 1 0).1).natAbs*(Nat.gcd a b):Nat):Int) (b:Int)) rfl) ?_
     rintro e aua ⟨rfl,Cz⟩
     refine ⟨_,rfl,trivial,?_⟩
     refine Pl.aI (v:=(.bool true)) trivial rfl rfl rfl rfl rfl rfl (fun X=>akC (decide_eq_true (LC (azY (Sn.le hla (by decide)) (Sn.le hlb (by decide)) hb0))) X) ?_
     refine Pl.ah trivial rfl rfl rfl rfl rfl ?_
     refine bg trivial rfl rfl rfl rfl rfl (M6 _) ?_
     have adZ:=Ib.ext Qg (Ext.below lN (Ext.below wV (Ext.below yz (Ext.below vE (Ext.below qC (Ext.below qD (Ext.below qE (Ext.below wW Cz))))))))
     refine Pl.aH trivial rfl rfl rfl rfl rfl (Ib.mag adZ) ?_
     have Zm:=Zn.below LU (Ext.below qE (Ext.below wW Cz))
     have anW:=Zn.mag Zm
     refine Pl.ah trivial rfl rfl rfl rfl rfl ?_
     have Zo:=Un.below LV (Ext.below wW Cz)
     refine Pl.aA rfl rfl rfl rfl rfl qL ?_
     refine Calls.mono (kP _ _ _ (((cf (quo a b) 0 1).1).natAbs) (Nat.gcd a b) _ anW Zo (Sn.le (Sz.sn rF) (by decide)) (Sn.le lK (by decide)) rfl) ?_
     rintro e aGF ⟨aC7,rfl,aud,akF⟩
     refine ⟨_,rfl,trivial,?_⟩
     have aue:Sn (((cf (quo a b) 0 1).1).natAbs*(Nat.gcd a b)) 180:=Sn.mul (Sz.sn rF) lK (by decide)
     refine Pl.ah trivial rfl rfl rfl rfl rfl ?_
     have ad1:=Un.below sQ (Ext.below vE (Ext.below qC (Ext.below qD (Ext.below qE (Ext.below wW (Ext.below Cz akF))))))
     refine Pl.aA rfl rfl rfl rfl rfl aiw ?_
     refine Calls.mono (Nu _ _ _ (((cf (quo a b) 0 1).1).natAbs*(Nat.gcd a b)) a aud ad1 (Sn.le aue (by decide)) (Sn.le hla (by decide)) (bQ ((((cf (quo a b) 0 1).1).natAbs*(Nat.gcd a b):Nat):Int) (a:Int)) rfl) ?_
     rintro e aGG ⟨rfl,auf⟩
     refine ⟨_,rfl,trivial,?_⟩
     refine Pl.aI (v:=(.bool true)) trivial rfl rfl rfl rfl rfl rfl (fun X=>akC (decide_eq_true (LC (azZ (Sn.le hla (by decide)) (Sn.le hlb (by decide)) ha0 hb0))) X) ?_
     refine Pl.aO trivial rfl rfl rfl rfl rfl rfl ?_
     refine Pl.ah trivial rfl rfl rfl rfl rfl ?_
     refine Pl.ah trivial rfl rfl rfl rfl rfl ?_
     refine Pl.aO trivial rfl rfl rfl rfl rfl rfl ?_
     refine Pl.aj trivial rfl rfl rfl rfl rfl ?_
     refine Pl.ak ?_
     refine Pl.bU rfl rfl ?_
     exact ⟨rfl,(Ext.below hB1 (Ext.below hB2 (Ext.below hB3 (Ext.below hB4 (Ext.below cB (Ext.below jd (Ext.below lN (Ext.below wV (Ext.below yz (Ext.below vE (Ext.below qC (Ext.below qD (Ext.below qE (Ext.below wW (Ext.below Cz (Ext.below akF auf))))))))))))))))⟩
theorem CB (w:World) (r0:Value) (xa:List Nat) (u0:U w r0 xa) (r1:Value) (xb:List Nat) (u1:U w r1 xb) :
  Calls Tryz.prog 6 #[r0,r1] w fun e w'=>e = .returned (.bool true)∧Ext w w':=by
 obtain ⟨a,da⟩:∃ a,dG xa 30=a:=⟨_,rfl⟩
 have hla:Sn a 30:=by rw [← da];exact iA (iE xa 30 u0.lim)
 obtain ⟨b,db⟩:∃ b,dG xb 30=b:=⟨_,rfl⟩
 have hlb:Sn b 30:=by rw [← db];exact iA (iE xb 30 u1.lim)
 exact IG w r0 xa u0 r1 xb u1 a b da hla db hlb
end Go.Proofs.YtnilonnkcbkdmaaGreatDoor
namespace Go.Proofs.YtnilonnkcbkdmaaGreatDoor
set_option linter.all false
open Go.ChangeShapes Go.WideShapes Go.ChangeAt Go.RowKit
set_option maxHeartbeats 2000000
set_option maxRecDepth 100000 in
theorem zC (os:Os) (started:os.Started) (H:Type) (enc:TypeId × Value→H) :
  ReturnsInHanded {} Tryz.checked os 6 .any (fun w args=>(Rows.gcdCofactorsSpec.pre enc Tryz.prog Tryz.f6 [] false w args∧laidMetH Tryz.prog gQ w)∧sizedMet enc Tryz.prog Tryz.f6 (OpenSpec.ofChange Rows.gcdCofactorsSpec) false w args)
   (Rows.gcdCofactorsSpec.post enc Tryz.prog Tryz.f6 false true false false):=by
 refine returnsInHanded_of_change_and (C:=Tryz.checked) (X:=fun w _=>laidMetH Tryz.prog gQ w) (fun _ _ _ hh h=>h.of_heap hh) own started (by kernel_rfl) Tryz.func6
  (ChangeSpec.witness_shaped (enc:=enc) (C:=Tryz.checked) (os:=os) (X:=fun w _=>laidMetH Tryz.prog gQ w) false (World.doorLaid Tryz.prog 400 os) #[.slice none 0 0,.slice none 0 0] 8 rfl (World.shaped_of_RefB (by kernel_rfl) (by kernel_rfl)) (by kernel_rfl) (by kernel_rfl) (by kernel_rfl) (jf os _)) ?_
 intro W base args ds gs before hval0 hW _ _ hL _
 have hval:∀ (j:Nat) t v,Tryz.f6.params[j]?=some t→args[j]?=some v→Value.okWide Tryz.prog W .any base t v:=hval0
 have hW':=hW
 obtain ⟨p,q,qX,hV,rfl,hfz,hnd⟩:=hW
 have hlt:∀ x∈p++q,x.block<W.heap.size:=fun x hx=>hW'.lt x hx
 have hA:DataW.TrodAll enc Tryz.prog W 0 (fun _=>true) true Tryz.f6.params.toList args.toList ds p:=qX
 rw [Tryz.params6] at hA hval
 clear qX hval0
 obtain ⟨v0,vs0,d0,ds0,p0,q0,yu,rfl,rfl,h0,r0⟩:=trodAll_cons hA
 obtain ⟨v1,vs1,d1,ds1,p1,q1,mh,rfl,rfl,h1,r1⟩:=trodAll_cons r0
 obtain ⟨hn1,rfl,rfl⟩:=trodAll_nil r1
 subst hn1
 subst mh
 obtain rfl:args=#[v0,v1]:=by cases args;simp_all
 obtain ⟨rfl,rfl⟩:=trodVars_none hV
 obtain ⟨Tj,u0⟩:=dS (hval 0 22 v0 rfl rfl) h0 (fun x hx=>hlt x (by simp [hx]))
 obtain ⟨Wo,u1⟩:=dS (hval 1 22 v1 rfl rfl) h1 (fun x hx=>hlt x (by simp [hx]))
 refine (CB W _ _ u0 _ _ u1).mono fun e W' ⟨he,hB⟩=>?_
 subst he
 exact ⟨_,rfl,jg hW' rfl (by rw [Tryz.params6];decide +kernel) rfl rfl rfl rfl hB⟩
theorem CE:Rows.GcdCofactorsSaid :=
 OpenClaim.holds_of_wide 6 Tryz.f6 rfl rfl rfl rfl rfl rfl rfl ⟨rfl,rfl,rfl,rfl,rfl⟩ rfl rfl rfl rfl rfl (by kernel_rfl) Tryz.func6 (by kernel_rfl)
  (of_decide_eq_true (by kernel_rfl)) (by unfold Func.isWrapper;first | (rw [if_pos (by decide +kernel)];kernel_rfl) | (rw [if_neg (by decide +kernel)];exact ⟨rfl,rfl⟩))
  (fun os started H enc _=>zC os started H enc)
theorem gcdCofactors_holds:Rows.GcdCofactorsCardSaid :=
 Claim7.holds_tied_plain_at .later [] [.wider] true Rows.gcdCofactorsCard.stood.harness false
  CE (fun _ h=>by cases h) (by kernel_rfl) (fun _ h=>by cases h) gcdCofactors_row_tie rfl ⟨rfl,rfl⟩ (by kernel_rfl) rfl
  (fun f fn hf hfn=>by
   obtain rfl:f = 6 := Option.some.inj ((show Tryz.prog.funcNamed "ziggurat/zigguratlaw07.GcdCofactors" = some 6 by kernel_rfl).symm.trans hf) |>.symm
   obtain rfl:fn=Tryz.f6 := (Option.some.inj (Tryz.func6.symm.trans hfn)).symm
   exact ⟨by kernel_rfl,fun j t ht=>by
    rw [Tryz.params6] at ht
    have hm:t∈[22,22]:=by simpa using Array.mem_of_getElem? ht
    have hall:([22,22].all fun u=>!Tryz.prog.wantsStandIn u)=true:=by kernel_rfl
    exact (show Tryz.prog.wantsStandIn t=false by simpa using List.all_eq_true.1 hall t hm)⟩)
  (by kernel_rfl)
end Go.Proofs.YtnilonnkcbkdmaaGreatDoor
