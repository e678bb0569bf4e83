/- DyadSides, and what it leans on beyond the base. -/
import Derived.Test.YtdpmbgomcjnohaaGreatDoorBab
import Derived.Test.YtdpmbgomcjnohaaGreatDoorBag
import Derived.Test.YtdpmbgomcjnohaaGreatDoorBad
import Derived.Test.YtdpmbgomcjnohaaGreatDoorBae
import Derived.Test.YtdpmbgomcjnohaaGreatDoorBaj
import Derived.Test.YtdpmbgomcjnohaaGreatDoorBai
import Derived.Test.YtdpmbgomcjnohaaGreatDoorBam
import Derived.Test.YtdpmbgomcjnohaaGreatDoorBap
import Derived.Test.YtdpmbgomcjnohaaGreatDoorBaq
import Derived.Test.YtdpmbgomcjnohaaGreatDoorBas
import Derived.Test.YtdpmbgomcjnohaaGreatDoorBar
import Derived.Test.YtdpmbgomcjnohaaGreatDoorBac
import Derived.Test.YtdpmbgomcjnohaaGreatDoorBat
import Derived.Test.YtdpmbgomcjnohaaGreatDoorBav
import Derived.Test.YtdpmbgomcjnohaaGreatDoorBau
import Derived.Test.YtdpmbgomcjnohaaGreatDoorBbb
import Derived.Test.YtdpmbgomcjnohaaGreatDoorBba
import Derived.Test.YtdpmbgomcjnohaaGreatDoorBbd
import Derived.Test.YtdpmbgomcjnohaaGreatDoorBbf
import Derived.Test.YtdpmbgomcjnohaaGreatDoorBbe
import Derived.Test.YtdpmbgomcjnohaaGreatDoorBbg
import Derived.Test.YtdpmbgomcjnohaaGreatDoorBbh
import Derived.Deep.MidRow
import Derived.Deep.WholeRow
import Derived.Laws.CopyOwn
import Derived.WalkKit
import Derived.RangeFuncSeq
import Derived.RangeFuncLeaves
import Derived.OrdersIn
import Derived.TacticsIn
import Derived.SevenTiedAt
import Derived.LaidMore
import Derived.Stop.Joined
import Derived.JoinedOf
import Derived.JoinedAt
import Derived.Lib.SmallJoins
import Derived.Laws.AppendOwn
import Derived.Laws.OwnMore
import Derived.Laws.BitsAllLaws
import Derived.Laws.Bits64
import Derived.OwnWalk
import Derived.Deep.RegionHeld3
import Derived.Scope
import Derived.Lib.SlTrimSet
import Derived.Lib.Bytealg
import Derived.Laws.Concat
import Derived.Lay
import Derived.LaidOnce

namespace Go.Proofs.YtdpmbgomcjnohaaGreatDoor.Pl
open Go
set_option linter.all false
set_option maxRecDepth 100000
set_option maxHeartbeats 8000000
section
variable {P:Program} {T:TypeId} {x y:Operand} {k k':IntKind} {a b c:Int} {v:Bool}
theorem AR (h0:b≠0) (h:a.tmod b=c) (X:World):Bn P .rem T x y (.int k a) (.int k b) X = .ok (.int k c) X:=by
 subst h;simp [Bn,eqGuard,binOp,Op.intDiv,h0]
theorem Hl (h:decide (a≤b)=v) (X:World):Bn P .leq T x y (.int k a) (.int k b) X = .ok (.bool v) X:=by
 subst h;simp [Bn,eqGuard,binOp,Op.intCmp]
end
end Go.Proofs.YtdpmbgomcjnohaaGreatDoor.Pl
namespace Go.Proofs.YtdpmbgomcjnohaaGreatDoor.Pl
open Go
set_option linter.all false
set_option maxRecDepth 100000
set_option maxHeartbeats 8000000
section
variable {P:Program} {Q:Exit→Act→World→Prop} {ro:Option Nat} {n:Nat} {ds:List Deferred} {cs:List Code} {l:List (Nat × Value)} {w:World} {x y:Code}
theorem Ho {c:Code} (k:Nat) (h:Ea P Q n ds cs c k l w):V P Q n ds (.loop c::cs) l w:=by
 refine ym (fun k l w=>Ea P Q n ds cs c k l w) k h fun k l w hU=>?_
 cases k with
 | zero =>
  intro a ha
  refine wp_mono (hU a ha) fun e a w hq=>?_
  cases e with
  | normal=>exact hq.elim
  | _=>exact hq
 | succ k =>
  intro a ha
  refine wp_mono (hU a ha) fun e a w hq=>?_
  cases e with
  | normal=>obtain ⟨l',ha',h'⟩:=hq;exact ⟨k,l',Nat.lt_succ_self k,ha',h'⟩
  | _=>exact hq
theorem Pz {c:Code} {k:Nat} (h:V P (Exit.then (fun a' w'=>∃ l',Ag n ds a' l'∧Ea P Q n ds cs c k l' w') (Ks P Q cs)) n ds [c] l w):Ea P Q n ds cs c (k+1) l w:=h
theorem Hq {c:Code} (h:V P (Exit.then (fun _ _=>False) (Ks P Q cs)) n ds [c] l w):Ea P Q n ds cs c 0 l w:=h
theorem PD {c:Code} {k:Nat} {Q':Exit→Act→World→Prop} (h:Ea P Q n ds cs c k l w):V P (Exit.then (fun a' w'=>∃ l',Ag n ds a' l'∧Ea P Q n ds cs c k l' w') Q') n ds [] l w:=fun a ha=>⟨l,ha,h⟩
end
end Go.Proofs.YtdpmbgomcjnohaaGreatDoor.Pl
namespace Go.Proofs.YtdpmbgomcjnohaaGreatDoor
open Go.ChangeShapes Go.WideShapes Go.ChangeAt Go.RowKit
set_option linter.all false
set_option maxRecDepth 100000
set_option maxHeartbeats 8000000
theorem laidOut:laidOutB Tryz.prog=true:=by kernel_rfl
theorem wM:Tryz.prog.cellsOf 67 = 1:=by kernel_rfl
theorem gU {H:Type} {enc:TypeId × Value→H} {W W':World} {sp:Nat→Bool} (hB:Ext W W'):∀ {ts:List TypeId} {vs:List Value} {ds:List (DataW H)} {ps:List MemPlace},
  (∀ t∈ts,Tryz.prog.readableRec t=true∧t<Tryz.prog.types.size)→DataW.TrodAll enc Tryz.prog W 0 (fun _=>true) true ts vs ds ps→(∀ p∈ps,p.block<W.heap.size)→(∀ p∈ps,sp p.block=true)→DataW.TrodAll enc Tryz.prog W' 0 sp true ts vs ds ps
 | [],[],[],_,_,h,_,_=>h
 | t::_,_::_,_::_,_,hT,⟨p,q,h1,h2,e⟩,hlt,hs=>⟨p,q,
  WideElems.Trod_stays laidOut (hT t (List.mem_cons_self ..)).1 (hT t (List.mem_cons_self ..)).2 h1 (fun x hx=>Below.same hB (hlt x (by rw [e];exact List.mem_append_left _ hx))) (fun x hx=>hs x (by rw [e];exact List.mem_append_left _ hx)),
  gU hB (fun t ht=>hT t (List.mem_cons_of_mem _ ht)) h2 (fun x hx=>hlt x (by rw [e];exact List.mem_append_right _ hx)) (fun x hx=>hs x (by rw [e];exact List.mem_append_right _ hx)),e⟩
theorem rR {H:Type} {enc:TypeId × Value→H} {f:Func} {s:ChangeSpec} {apart fresh handsOn again:Bool} {W W':World} {args:Array Value} {ds gs:List (DataW H)} {before:List MemPlace}
  (hW:DataW.Whole enc Tryz.prog f.params.toList s.vars apart W args.toList ds gs before) (hv:s.vars=[]) (hT:∀ t∈f.params.toList,Tryz.prog.readableRec t=true∧t<Tryz.prog.types.size)
  (hres:f.resultTypes=#[4]) (hfn:(s.fn H (ds++gs)).results=[.lit (.bool true)]) (hfa:(s.fn H (ds++gs)).args=ds) (Y9:(s.fn H (ds++gs)).vars=[]) (hB:Ext W W') :
  s.post enc Tryz.prog f apart fresh handsOn again W args (.bool true) W':=by
 have hlt:∀ p∈before,p.block<W.heap.size:=fun p hp=>hW.lt p hp
 have hold:∀ p∈before,(fun b=>decide (b<W.heap.size)) p.block=true:=fun p hp=>by simpa using hlt p hp
 have hres':∀ (b:Nat) (sp:Nat→Bool) (hd:Bool),DataW.TrodAll enc Tryz.prog W' b sp hd f.resultTypes.toList ((Value.bool true).resultList f.resultTypes.size) (s.fn H (ds++gs)).results []:=by
  intro b sp hd
  rw [hres,hfn]
  exact trodAll_mk1 (shut_bool Tryz.underlying4 _)
 have hW2:=hW
 obtain ⟨p,q,hA,hV,hpq,hz,hn⟩:=hW
 rw [hv] at hV
 obtain ⟨_,rfl⟩:=trodVars_none hV
 rw [List.append_nil] at hpq
 subst hpq
 have hargs:∀ sp:Nat→Bool,(∀ p'∈before,sp p'.block=true)→DataW.TrodAll enc Tryz.prog W' 0 sp true f.params.toList args.toList (s.fn H (ds++gs)).args before:=fun sp hs=>by
  rw [hfa];exact gU hB hT hA hlt hs
 have hvars:∀ sp:Nat→Bool,DataW.TrodVars enc Tryz.prog W' sp s.vars (s.fn H (ds++gs)).vars []:=fun sp=>by rw [hv,Y9];exact rfl
 refine ⟨ds,gs,before,[],before,[],hW2,hres' _ _ _,hargs _ hold,hvars _,World.keptBut_mono (fun p hp=>⟨hp,?_⟩) (Below.frame hB (·∈before)),fun _=>?_⟩
 · simpa using hp
 · refine ⟨ok_one hres rfl (okWide_bool_mk Tryz.underlying4 _),_,_,([]++before)++[],⟨[]++before,[],trodAll_append (hargs _ (fun _ _=>rfl)) (hres' _ _ _),hvars _,rfl,?_,?_⟩,?_⟩
   · intro b off hp
     have hin:MemPlace.cell b off∈before:=by simpa using hp
     rw [Below.frozen hB (hlt _ hin)]
     exact hz b off hin
   · intro ha
     have:=hn ha
     simpa using this
   · intro p hp _
     simpa using hp
end Go.Proofs.YtdpmbgomcjnohaaGreatDoor
namespace Go.Proofs.YtdpmbgomcjnohaaGreatDoor
open Go.ChangeShapes Go.WideShapes Go.ChangeAt Go.RowKit
set_option linter.all false
set_option maxRecDepth 100000
set_option maxHeartbeats 8000000
def rk (K:Int) (m:Nat):Nat:=(K%256).toNat%(m+1)
theorem Hr (K:Int) (m:Nat):rk K m≤m:=by have:=Nat.mod_lt (K%256).toNat (show 0<m+1 by omega);unfold rk;omega
theorem jy {H:Type} {enc:TypeId × Value→H} {W:World} {fuel:Nat} {v:Value} {y:DataW H × List MemPlace} (hf:DataW.trod enc Tryz.prog W 0 (fun _=>true) true fuel 22 [v]=some y) :
  ∃ xs:List Nat,U W v xs:=by
 rcases open_ints Tryz.underlying22 Tryz.underlying67 wM hf with ⟨hcs,hx⟩ | ⟨a,len,cap',zs,hcs,_,hl,hm,hz,hx,hcell,hwz⟩
 · simp at hcs
   subst hcs
   exact ⟨[],U.uW _ _ _⟩
 · simp at hcs
   subst hcs
   simp only [if_true] at hz
   have hlen:((zs.take len).map Int.toNat).length=len:=by simp;omega
   have hb:∀ z∈zs,0≤z∧z<4294967296:=fun z hzz=>by have:=bounds_u32 (hwz z hzz);omega
   refine ⟨(zs.take len).map Int.toNat,some a,cap',by rw [hlen],⟨by rw [hlen];exact hl,by rw [hlen];unfold maxLen at hm;omega⟩,?_,fun h0=>⟨a,rfl,?_,fun j hj=>?_⟩⟩
   · intro x hx'
     obtain ⟨z,hz1,rfl⟩:=List.mem_map.1 hx'
     have:=hb z (List.mem_of_mem_take hz1)
     omega
   · rw [hlen] at h0
     have hc:=hcell 0 (by omega)
     rw [iF] at hc
     unfold World.cell? at hc
     rcases Nat.lt_or_ge a.block W.heap.size with h | h
     · exact h
     · rw [Array.getElem?_eq_none h] at hc;cases hc
   · rw [hlen] at hj
     have hjz:j<zs.length:=by omega
     have e:lb ((zs.take len).map Int.toNat) j=(zs.getD j 0).toNat:=by
      simp [lb,hj,hjz]
     rw [hcell j hjz,e]
     have hmem:zs.getD j 0∈zs:=by simp [hjz]
     have:=hb _ hmem
     rw [show (((zs.getD j 0).toNat:Nat):Int)=zs.getD j 0 by omega]
end Go.Proofs.YtdpmbgomcjnohaaGreatDoor
namespace Go.Proofs.YtdpmbgomcjnohaaGreatDoor
open Go.RowKit
set_option linter.all false
set_option maxRecDepth 100000
set_option maxHeartbeats 8000000
theorem BM (xs:List Nat) (k:Nat) (hx:∀ x∈xs,x<4294967296) (hk:k<xs.length) (h2:xs.length≤2) :
  bits .or .u64 ((val (xs.take k):Nat):Int) (IntKind.u64.wrap (IntKind.u64.wrap ((lb xs k:Nat):Int)*2^(32*k)))=((val (xs.take (k+1)):Nat):Int):=by
 have hl:=cK hx k
 have hv:=sK (xs.take k) (fun x h=>hx x (List.mem_of_mem_take h))
 rw [List.length_take,Nat.min_eq_left (by omega)] at hv
 have e0:IntKind.u64.wrap ((lb xs k:Nat):Int)=((lb xs k:Nat):Int):=by rw [IntKind.wrap_u64];omega
 have hk1:k=0∨k=1:=by omega
 have hb:lb xs k*2^(32*k)<18446744073709551616:=by
  rcases hk1 with rfl | rfl
  · simp only [Nat.mul_zero,Nat.pow_zero];omega
  · simp only [Nat.mul_one,Nat.reducePow];omega
 have e1:IntKind.u64.wrap (((lb xs k:Nat):Int)*2^(32*k))=((lb xs k*2^(32*k):Nat):Int):=by
  have e:((lb xs k:Nat):Int)*2^(32*k)=((lb xs k*2^(32*k):Nat):Int):=by rw [Int.natCast_mul,Int.natCast_pow];rfl
  rw [IntKind.wrap_u64,e]
  omega
 have hv2:val (xs.take k)<18446744073709551616:=by
  rcases hk1 with rfl | rfl
  · simp only [Nat.pow_zero] at hv;omega
  · simp only [Nat.reducePow] at hv;omega
 rw [e0,e1,u64_or_nat _ _ hv2 hb,yD _ _ _ (by rw [← mE];exact hv),gV xs k hk,mE]
end Go.Proofs.YtdpmbgomcjnohaaGreatDoor
namespace Go.Proofs.YtdpmbgomcjnohaaGreatDoor
open Go.RowKit
set_option linter.all false
set_option maxRecDepth 100000
set_option maxHeartbeats 8000000
theorem nU (w:World) (v:Value) (xs:List Nat) (k:Int) (hk0:0≤k) (hk1:k≤1000000000) (h:U w v xs) :
  Calls Tryz.prog 63 #[v,.int .i64 k] w fun e w'=>(∃ u,e = .returned u∧Un w' u (dM xs k.toNat))∧Below w.heap.size w w':=by
 have h':=h
 obtain ⟨A,c,rfl,⟨hc,hm⟩,hx,hr⟩:=h
 clear hr
 by_cases hl:(xs.length:Int)≤k
 · have hu:=dB w _ xs h' (by omega)
   have HT:Hid (xs.take k.toNat=xs):=List.take_of_length_le (by omega)
   have hmin:min (xs.length:Int) k=xs.length:=by omega
   go_enter Tryz.func63,Tryz.ntmps63
   go_wp2_with (go_at_call 100;refine hu.mono ?_;rintro e w' ⟨⟨z,rfl,hz⟩,hB⟩)
   go_ret
   exact ⟨⟨_,rfl,by rw [Un,dM,HT.out];exact hz⟩,hB⟩
 · obtain ⟨k,rfl⟩:=Int.eq_ofNat_of_zero_le hk0
   have hu:=dB w _ _ (h'.take (k:=k) (c':=c) (by omega) (by omega)) (by rw [List.length_take];omega)
   have hmin:min (xs.length:Int) (k:Int)=k:=by omega
   go_enter Tryz.func63,Tryz.ntmps63
   go_wp2_with (go_at_call 100;refine hu.mono ?_;rintro e w' ⟨⟨z,rfl,hz⟩,hB⟩)
   go_ret
   exact ⟨⟨_,rfl,by rw [Un,dM,Int.toNat_natCast];exact hz⟩,hB⟩
end Go.Proofs.YtdpmbgomcjnohaaGreatDoor
namespace Go.Proofs.YtdpmbgomcjnohaaGreatDoor
open Go.RowKit
set_option linter.all false
set_option maxRecDepth 100000
set_option maxHeartbeats 8000000
theorem uY (w:World) (v:Value) (xs:List Nat) (k:Int) (h:U w v xs) (hk0:0≤k) (hk1:k≤1000000000) (n:Nat) (hn:dM xs k.toNat=n) :
  Calls Tryz.prog 63 #[v,.int .i64 k] w fun e w'=>∃ u,e = .returned u∧Un w' u n∧Ext w w':=by
 subst hn
 exact (nU w v xs k hk0 hk1 h).mono fun e w' ⟨⟨u,he,hu⟩,hb⟩=>⟨u,he,hu,hb⟩
end Go.Proofs.YtdpmbgomcjnohaaGreatDoor
namespace Go.Proofs.YtdpmbgomcjnohaaGreatDoor
open Go.RowKit
set_option linter.all false
set_option maxRecDepth 100000
set_option maxHeartbeats 8000000
theorem qN (w:World) (v:Value) (xs:List Nat) (h:U w v xs) :
  Calls Tryz.prog 99 #[v] w fun e w'=>e = .returned (.bool (eO xs))∧w=w':=by
 obtain ⟨A,c,rfl,⟨hc,hm⟩,hx,hr⟩:=h
 by_cases hlen:xs.length≤65536
 · rcases Nat.eq_zero_or_pos xs.length with h0 | h0
   · obtain rfl:=List.eq_nil_of_length_eq_zero h0
     go_enter Tryz.func99,Tryz.ntmps99
     go_wp2
     go_ret
     exact ⟨rfl,rfl⟩
   · obtain ⟨ad,rfl,hb,hcell⟩:=hr h0
     have hc1:=hcell (xs.length-1) (by omega)
     have hne:(((xs.length:Nat):Int)==0)=false:=by rw [beq_eq_false_iff_ne];omega
     have hres:eO xs=(lb xs (xs.length-1) != 0):=by
      unfold eO
      have:xs.isEmpty=false:=by cases xs<;>simp_all
      simp [hlen,this]
     have HR:=Lib.hid hres
     clear hres
     go_enter Tryz.func99,Tryz.ntmps99
     go_wp2
     go_ret
     exact ⟨by rw [HR.out,← bne_cast];rfl,rfl⟩
 · have hres:eO xs=false:=by unfold eO;simp [hlen]
   have hne:(((xs.length:Nat):Int)==0)=false:=by rw [beq_eq_false_iff_ne];omega
   have HR:=Lib.hid hres
   clear hres
   go_enter Tryz.func99,Tryz.ntmps99
   go_wp2
   go_ret
   exact ⟨by rw [HR.out];rfl,rfl⟩
end Go.Proofs.YtdpmbgomcjnohaaGreatDoor
namespace Go.Proofs.YtdpmbgomcjnohaaGreatDoor
open Go.RowKit
set_option linter.all false
set_option maxRecDepth 100000
set_option maxHeartbeats 8000000
theorem jS (w:World) (va vb:Value) (cZ bs:List Nat) (na nb:Nat) (ha:U w va cZ) (hb:U w vb bs) (hna:cZ.length=na) (hnb:bs.length=nb) (hn1:na≤1000) (hn2:nb≤1000) :
  Calls Tryz.prog 143 #[va,vb] w fun e w'=>(∃ u,e = .returned u∧Un w' u (val cZ*val bs))∧Ext w w':=by
 obtain ⟨A,ca,rfl,⟨hca,hma⟩,hxl,Pb⟩:=id ha
 obtain ⟨A2,cb,rfl,⟨hcb,hmb⟩,hyl,Pd⟩:=id hb
 have HL:Hid (cZ.length=na∧bs.length=nb):=⟨hna,hnb⟩
 have WG:=Lib.hid (fun k=>gz bs k)
 have WH:=Lib.hid (fun k=>gz cZ k)
 have HT2:Hid (bs.take nb=bs∧cZ.take na=cZ):=⟨by rw [← hnb];exact List.take_length,by rw [← hna];exact List.take_length⟩
 rw [hna] at hca hma Pb ⊢
 rw [hnb] at hcb hmb Pd ⊢
 obtain ⟨n,hnn⟩:∃ n,na+nb=n:=⟨_,rfl⟩
 have hni:(na:Int)+(nb:Int)=(n:Int):=by omega
 obtain ⟨i0,hi,hz0,hz1,hz2⟩:=info_parts qB
 obtain ⟨B,hB⟩:∃ B,w.heap.size=B:=⟨_,rfl⟩
 have Dl:=Lib.hid hB
 clear ha hb hna hnb
 go_enter Tryz.func143,Tryz.ntmps143
 go_wp2_with (at_make;refine wpList_make_full _ rfl _ _ 22 rfl w.heap.size 67 i0 (.int .u32 0) 1 Tryz.underlying22 hi hz0 hz1 _ _ _ _ n rfl rfl (by omega) (by omega) (by rw [hz2];omega) (by unfold maxLen;omega) (Nat.le_refl _) ?_;intro w1 hown hgrow)
 have ho0:Own w1 w.heap.size (.slice (some ⟨w.heap.size,0,none⟩) n n) (List.replicate n 0):=by
  have:=Own.zeros hown
  rwa [List.length_replicate] at this
 have hE0:Ext w w1:=(Ext.refl w).grown hgrow (Nat.le_refl _) (fun _ h=>by cases h)
 rw [hB] at ho0
 clear hown hgrow hi hz0 hz1 hz2 i0
 have hS0:Hid (Ov bs cZ n 0 (List.replicate n 0)):=⟨by simp,fun x hx=>by simp at hx;omega,by simp [dG,val],fun m _=>gZ _ _⟩
 go_wp2
 go_loopw [6] (fun t wr=>∃ (i:Nat) (o:List Nat),i≤na∧t = .int .i64 (i:Nat)∧Hid (Ov bs cZ n i o)∧Own wr B (.slice (some ⟨B,0,none⟩) n n) o∧Ext w wr) (fun t _=>na-(intOf t).toNat)
 case atStart=>exact ⟨0,_,Nat.zero_le _,rfl,hS0,ho0,hE0⟩
 case round =>
  clear hS0 ho0 hE0
  obtain ⟨i,o,hib,rfl,HO,hown,hE⟩:=hrel
  by_cases hlt:i<na
  · obtain ⟨ad,rfl,hb1,hcell1⟩:=Pb (by omega)
    have hyb:=cK hxl i
    have hty:=WH.out i (by rw [HL.out.1];exact hlt)
    obtain ⟨y,yZ⟩:∃ y,lb cZ i=y:=⟨_,rfl⟩
    rw [yZ] at hyb hty
    have HY:=Lib.hid yZ
    have Pe:Hid (Pf o n i (val o+LB^i*(val (bs.take 0)*y)) 0 o 0):=⟨HO.out.len,HO.out.lt,by decide,by simp [val],fun m _=>rfl⟩
    have AU:Hid (val (cZ.take (i+1))=val (cZ.take i)+LB^i*y):=hty
    have hno:Hid (lb o (i+nb)=0):=HO.out.out _ (by rw [HL.out.2];exact Nat.le_refl _)
    clear yZ hty
    go_wp2
    go_loopw [8,7] (fun t s wx=>∃ (j:Nat) (o2:List Nat) (cy:Nat),j≤nb∧t = .int .i64 (j:Nat)∧s = .int .u64 (cy:Nat)∧Hid (Pf o n i (val o+LB^i*(val (bs.take j)*y)) j o2 cy)∧Own wx B (.slice (some ⟨B,0,none⟩) n n) o2∧Ext w wx) (fun t _ _=>nb-(intOf t).toNat)
    case atStart=>exact ⟨0,o,0,Nat.zero_le _,rfl,rfl,Pe,hown,hE⟩
    case round =>
     clear Pe hown hE
     obtain ⟨j,o2,cy,hj,rfl,rfl,HW,hown,hE⟩:=hrel
     by_cases hjt:j<nb
     · obtain ⟨Jv,rfl,hb2,hcell2⟩:=Pd (by omega)
       have hc0:=(hE.cell (p:=ad.add i) (by rw [aF];exact hb1)).trans (hcell1 i hlt)
       rw [HY.out] at hc0
       have hc1:=(hE.cell (p:=Jv.add j) (by rw [aF];exact hb2)).trans (hcell2 j hjt)
       have hxb:=cK hyl j
       have htk:=WG.out j (by rw [HL.out.2];exact hjt)
       have hcz:=hown.rd.2 (i+j) (by rw [HW.out.len];omega)
       have hf:=hown.frozen' (i+j)
       have hzb:=cK HW.out.lt (i+j)
       have hcy:=HW.out.zT
       obtain ⟨x,wF⟩:∃ x,lb bs j=x:=⟨_,rfl⟩
       rw [wF] at hc1 hxb htk
       obtain ⟨z,hzz⟩:∃ z,lb o2 (i+j)=z:=⟨_,rfl⟩
       rw [hzz] at hcz hzb
       obtain ⟨t,ht⟩:∃ t,x*y=t:=⟨_,rfl⟩
       have ht1:t≤18446744065119617025:=by rw [← ht];exact LY hxb hyb
       have hti:(y:Int)*(x:Int)=(t:Int):=by rw [← ht,Int.natCast_mul,Int.mul_comm]
       obtain ⟨u,hu⟩:∃ u,cy+(t+z)=u:=⟨_,rfl⟩
       obtain ⟨s,hs⟩:∃ s,u%4294967296=s:=⟨_,rfl⟩
       obtain ⟨d,hd⟩:∃ d,u/4294967296=d:=⟨_,rfl⟩
       obtain ⟨hm,hsb,hdb,hub,htz⟩:=tY t z cy s d u ht1 hzb hcy hu hs hd
       have hst:=HW.out.step (by omega) t s d (by rw [hzz];exact hm) hsb hdb
       rw [Nat.add_assoc (val o),Nat.pow_add,Nat.mul_assoc,← Nat.mul_add,← ht,← Nat.mul_assoc,← Nat.add_mul,← htk] at hst
       have HST:=Lib.hid hst
       have hown2:=hown.set' (i+j) s
       have hE2:=hE.setCell (p:=⟨B,i+j,none⟩) (by rw [Dl.out];exact Nat.le_refl _) (.int .u32 (s:Nat))
       have q1:IntKind.u64.wrap (t:Int)=(t:Int):=by rw [IntKind.wrap_u64];omega
       have q2:IntKind.u64.wrap ((t:Int)+(z:Int))=(t:Int)+(z:Int):=by rw [IntKind.wrap_u64];omega
       have q3:(t:Int)+(z:Int)+(cy:Int)=(u:Int):=by omega
       have q4:IntKind.u64.wrap (u:Int)=(u:Int):=by rw [IntKind.wrap_u64];omega
       have q5:IntKind.u32.wrap (u:Int)=(s:Int):=by rw [IntKind.wrap_u32];omega
       have q6:(u:Int)%4294967296=(s:Int):=by omega
       have q7:(u:Int)/4294967296=(d:Int):=by omega
       have q8:IntKind.u64.wrap (x:Int)=(x:Int):=by rw [IntKind.wrap_u64];omega
       have q9:IntKind.u64.wrap (y:Int)=(y:Int):=by rw [IntKind.wrap_u64];omega
       have q10:IntKind.u64.wrap (z:Int)=(z:Int):=by rw [IntKind.wrap_u64];omega
       have q11:(u:Int)%18446744073709551616=(u:Int):=by omega
       have q12:(t:Int)%18446744073709551616=(t:Int):=by omega
       have q13:((t:Int)+(z:Int))%18446744073709551616=(t:Int)+(z:Int):=by omega
       have q14:IntKind.i64.wrap ((i:Int)+(j:Int))=(i:Int)+(j:Int):=IntWalk.i64_in _ (by omega)
       have q15:(0:Int)≤(i:Int)+(j:Int):=by omega
       have q16:(i:Int)+(j:Int)<(n:Int):=by omega
       have q17:((i:Int)+(j:Int)).toNat=i+j:=by omega
       have q18:(0:Int)≤(i:Int):=by omega
       have q19:(i:Int)<(na:Int):=by omega
       have q20:(0:Int)≤(j:Int):=by omega
       have q21:(j:Int)<(nb:Int):=by omega
       clear hst htk wF hzz ht hu hs hd hm HW hxb hzb ht1 hcy hown2 hE2
       have HOWN:=Lib.hid hown
       have Za:=Lib.hid hE
       clear hown hE
       go_wp2_with (fail)
       go_quiet (fail)
       have hown2:=(HOWN.out.ext (jq wr nq)).set' (i+j) s
       have hE2:=(Za.out.below (jq wr nq)).setCell (p:=⟨B,i+j,none⟩) (by rw [Dl.out];exact Nat.le_refl _) (.int .u32 (s:Nat))
       go_wp2
       go_roundw
       case rel=>exact ⟨j+1,_,d,by omega,by go_num,rfl,HST,hown2,hE2⟩
       case measure=>simp [intOf];omega
     · obtain rfl:j=nb:=by omega
       have hcz:=hown.rd.2 (i+j) (by rw [HW.out.len];omega)
       have hf:=hown.frozen' (i+j)
       have hl0:lb o2 (i+j)=0:=by rw [HW.out.out _ (Nat.le_refl _)];exact hno.out
       have hws:=pW o2 (i+j) cy (by rw [HW.out.len];omega)
       rw [hl0,Nat.mul_zero,Nat.add_zero,HW.out.val,HT2.out.1] at hws
       have wN:(Value.int .u32 (lb o2 (i+j):Nat)) = .int .u32 0:=by rw [hl0];rfl
       rw [wN] at hcz
       have AX:=HW.out.zT
       have q5:IntKind.u32.wrap (cy:Int)=(cy:Int):=by rw [IntKind.wrap_u32];omega
       have q6:(cy:Int)%4294967296=(cy:Int):=by omega
       have hown2:=hown.set' (i+j) cy
       have hE2:=hE.setCell (p:=⟨B,i+j,none⟩) (by rw [Dl.out];exact Nat.le_refl _) (.int .u32 (cy:Nat))
       have HST:Hid (Ov bs cZ n (i+1) (o2.set (i+j) cy)):=by
        refine ⟨by rw [List.length_set];exact HW.out.len,dY HW.out.lt AX,?_,fun m hm=>?_⟩
        · rw [hws,AU.out,Nat.mul_add,← HO.out.val,Nat.mul_left_comm]
        · rw [HL.out.2] at hm
          rw [bX _ (by omega),HW.out.out _ (by omega)]
          exact HO.out.out m (by rw [HL.out.2];omega)
       have g12:(i:Int)+(j:Int)<(n:Int):=by omega
       have g13:i+j<n:=by omega
       clear hl0 hws wN hown hE HW AX AU hno
       go_wp2
       go_roundw
       case rel=>exact ⟨i+1,_,by omega,by go_num,HST,hown2,hE2⟩
       case measure=>simp [intOf];omega
  · obtain rfl:i=na:=by omega
    have hu:=hown.xX HO.out.lt (by rw [HO.out.len];omega)
    have hvv:=HO.out.val
    rw [HT2.out.2,Nat.mul_comm] at hvv
    have HV:=Lib.hid hvv
    have hol:=HO.out.len
    clear hown HO hvv
    go_wp2_with (fail)
    refine (dB _ _ _ hu (by omega)).mono ?_
    rintro e w2 ⟨⟨u,rfl,hu2⟩,hB2⟩
    rw [HV.out] at hu2
    have hE2:=hE.below hB2
    have HF:Hid (∃ u',Ending.returned u = .returned u'∧Un w2 u' (val cZ*val bs)):=⟨_,rfl,hu2⟩
    clear hu2 hu hB2
    go_wp2
    go_ret
    exact ⟨HF.out,hE2⟩
end Go.Proofs.YtdpmbgomcjnohaaGreatDoor
namespace Go.Proofs.YtdpmbgomcjnohaaGreatDoor
open Go.RowKit
set_option linter.all false
set_option maxRecDepth 100000
set_option maxHeartbeats 8000000
theorem nV (w:World) (va vb:Value) (n m k:Nat) (ha:Un w va n) (hb:Un w vb m) (hn:(limbs n).length≤398) (hm:(limbs m).length≤398) (hk:n*m=k) :
  Calls Tryz.prog 143 #[va,vb] w fun e w'=>∃ u,e = .returned u∧Un w' u k∧Ext w w':=by
 refine (jS w va vb _ _ _ _ ha hb rfl rfl (by omega) (by omega)).mono ?_
 rw [aH,aH,hk]
 rintro e w' ⟨⟨u,h1,h2⟩,h3⟩
 exact ⟨u,h1,h2,h3⟩
end Go.Proofs.YtdpmbgomcjnohaaGreatDoor
namespace Go.Proofs.YtdpmbgomcjnohaaGreatDoor
open Go.RowKit
set_option linter.all false
set_option maxRecDepth 100000
set_option maxHeartbeats 8000000
attribute [local go_sem ↓] fD
attribute [local go_sem] bL
theorem nW (w:World) (v:Value) (n:Nat) (k0:Nat) (hk:k0≤100000000) (h:Un w v n) (hl:(limbs n).length≤100000000) :
  Calls Tryz.prog 92 #[v,.int .i64 (k0:Int)] w fun e w'=>(∃ u,e = .returned u∧Un w' u (n*2^k0))∧Below w.heap.size w w':=by
 obtain ⟨A,c,rfl,⟨hc,hm⟩,hx,hr⟩:=id h
 clear hr
 obtain ⟨Q,hQ⟩:∃ Q,k0/32=Q:=⟨_,rfl⟩
 obtain ⟨S,hS⟩:∃ S,k0%32=S:=⟨_,rfl⟩
 have eQ:(k0:Int)/32=(Q:Int):=by omega
 have eS:(k0:Int)%32=(S:Int):=by omega
 have HK:Hid (k0=32*Q+S):=by rw [Hid];omega
 have nS:S<32:=by omega
 have VB:Q≤100000000:=by omega
 go_enter Tryz.func92,Tryz.ntmps92
 go_wp2_with (fail)
 have hown0:Own (w.alloc (.cells #[] 67)) w.heap.size (.slice (some ⟨w.heap.size,0,none⟩) 0 0) []:=World.ownsRow_lit w #[] 0 (Nat.le_refl _) (Nat.zero_le _) rfl
 have hB0:Below w.heap.size w (w.alloc (.cells #[] 67)):=(Below.refl _ _).alloc (Nat.le_refl _) _
 go_loopw [5,8] (fun s i wr=>∃ k:Nat,k≤Q∧i = .int .i64 k∧Own wr w.heap.size s (List.replicate k 0)∧Below w.heap.size w wr) (fun _ i _=>Q-(intOf i).toNat)
 case atStart=>exact ⟨0,Nat.zero_le _,rfl,hown0,hB0⟩
 case round =>
  clear hown0 hB0
  obtain ⟨k,hk1,rfl,hown,hB⟩:=hrel
  by_cases hd1:k<Q
  · obtain ⟨v',w',hrun,hown',hB'⟩:=fI hB hown 0 0 rfl (by decide) (by simp;omega)
    obtain ⟨t1,t2,t3⟩:=eD hrun
    rw [← List.replicate_succ'] at hown'
    clear hrun
    go_wp2
    go_roundw
    case rel=>exact ⟨k+1,by omega,by go_num,hown',hB'⟩
    case measure=>simp [intOf];omega
  · obtain rfl:k=Q:=by omega
    go_wp2_with (fail)
    go_loop [7,9] (fun b i=>∃ j:Nat,j≤S∧i = .int .i64 j∧b = .int .u64 (2^j:Nat)) (fun _ i=>S-(intOf i).toNat)
    case atStart=>exact ⟨0,Nat.zero_le _,rfl,rfl⟩
    case round =>
     obtain ⟨j,hj,rfl,rfl⟩:=hrel
     have hp1:2^j<4294967296:=Nat.lt_of_le_of_lt (Nat.pow_le_pow_right (by decide) (show j≤31 by omega)) (by decide)
     by_cases hd2:j<S
     · have HN:Hid (2*((2^j:Nat):Int)=((2^(j+1):Nat):Int)):=by rw [Hid,Nat.pow_succ];omega
       obtain ⟨X,hX⟩:∃ X,2^j=X:=⟨_,rfl⟩
       rw [hX] at HN hp1
       rw [hX]
       clear hX
       go_wp2
       go_round
       case rel=>exact ⟨j+1,by omega,by go_num,by rw [← HN.out]⟩
       case measure=>simp [intOf];omega
     · obtain rfl:j=S:=by omega
       have hp0:0<2^j:=Nat.two_pow_pos j
       have O8:Hid (n*2^k0=n*2^j*4294967296^k):=by
        rw [Hid,HK.out,mE,Nat.pow_add,Nat.mul_comm (2^(32*k)),← Nat.mul_assoc]
       obtain ⟨P,hP⟩:∃ P,2^j=P:=⟨_,rfl⟩
       rw [hP] at hp0 hp1 O8
       rw [hP]
       clear hP
       go_wp2_with (fail)
       have O9:Hid (nT (limbs n) k P 0 (List.replicate k 0) 0):=nT.start _ _ _ hp0
       go_loopw [5,6,10] (fun s cv i wr=>∃ (m cy:Nat) (o:List Nat),m≤(limbs n).length+1∧i = .int .i64 m∧cv = .int .u64 cy∧Hid (nT (limbs n) k P m o cy)∧Own wr w.heap.size s o∧Below w.heap.size w wr) (fun _ _ i _=>(limbs n).length+1-(intOf i).toNat)
       case atStart=>exact ⟨0,0,_,Nat.zero_le _,rfl,rfl,O9,hown,hB⟩
       case round =>
        clear O9 hown hB
        obtain ⟨m,cy,o,hm1,rfl,rfl,HO,hown,hB⟩:=hrel
        have hlen:=HO.out.len
        by_cases hd3:m≤(limbs n).length
        · have h1:=cK hx m
          have h3:=HO.out.carry
          have h4:lb (limbs n) m*P+cy<4294967296*P:=by
           have:=Nat.mul_le_mul_right P (show lb (limbs n) m+1≤4294967296 by omega)
           rw [Nat.add_mul] at this;omega
          have e1:((lb (limbs n) m:Nat):Int)*(P:Int)=((lb (limbs n) m*P:Nat):Int):=by rw [Int.natCast_mul]
          have TK:((lb (limbs n) m:Nat):Int)*(P:Int)+(cy:Int)<18446744073709551616:=by rw [e1];omega
          have Y8:0≤((lb (limbs n) m:Nat):Int)*(P:Int):=by rw [e1];omega
          obtain ⟨x1,hx1⟩:∃ x1,(lb (limbs n) m*P+cy)%4294967296=x1:=⟨_,rfl⟩
          obtain ⟨c1,hc1⟩:∃ c1,(lb (limbs n) m*P+cy)/4294967296=c1:=⟨_,rfl⟩
          have AQ:Hid (nT (limbs n) k P (m+1) (o++[x1]) c1):=by rw [Hid,← hx1,← hc1];exact HO.out.step hx
          obtain ⟨v',w',hrun,hown',hB'⟩:=fI hB hown ((((lb (limbs n) m:Nat):Int)*(P:Int)+(cy:Int))%4294967296) x1 (by rw [← hx1,e1];omega) (by rw [← hx1];exact Nat.mod_lt _ (by decide)) (by omega)
          obtain ⟨t1,t2,t3⟩:=eD hrun
          have EM:Hid ((((lb (limbs n) m:Nat):Int)*(P:Int)+(cy:Int))/4294967296=(c1:Int)):=by rw [Hid,← hc1,e1];omega
          clear hrun hx1 hc1 hlen e1 h4
          go_wp2_with (fail)
          refine (bJ _ _ (limbs n) _ m rfl (U.below h hB)).mono ?_
          rintro e w' ⟨rfl,rfl⟩
          go_wp2_with (fail)
          go_roundw
          case rel=>exact ⟨m+1,c1,_,by omega,by go_num,by rw [EM.out],AQ,hown',hB'⟩
          case measure=>simp [intOf];omega
        · obtain rfl:m=(limbs n).length+1:=by omega
          have HV:Hid (val o=n*2^k0):=by rw [Hid,HO.out.done hx (Nat.le_refl _) hp1,aH,O8.out]
          have hu:=hown.xX HO.out.lt (by omega)
          have hol:o.length≤1000000000:=by omega
          clear hlen
          go_wp2_with (fail)
          refine (dB _ _ _ hu hol).mono ?_
          rintro e w' ⟨⟨z,rfl,hz⟩,hB2⟩
          have hz2:Un w' z (n*2^k0):=by rw [← HV.out];exact hz
          replace hB:=Below.trans hB (Below.mono hB2 hB.size)
          clear hz
          go_wp2
          go_ret
          exact ⟨⟨_,rfl,hz2⟩,hB⟩
end Go.Proofs.YtdpmbgomcjnohaaGreatDoor
namespace Go.Proofs.YtdpmbgomcjnohaaGreatDoor
open Go.RowKit
set_option linter.all false
set_option maxRecDepth 100000
set_option maxHeartbeats 8000000
theorem BN (w:World) (v:Value) (xs:List Nat) (h:U w v xs) (b:Bool) (hb:eO xs=b) :
  Calls Tryz.prog 99 #[v] w fun e w'=>e = .returned (.bool b)∧Ext w w' :=
 (qN w v xs h).mono fun e w' ⟨he,hw⟩=>⟨by rw [he,hb],by rw [← hw];exact Ext.refl w⟩
theorem rT (w:World) (v:Value) (n:Nat) (k:Nat) (h:Un w v n) (hk1:k≤100000000) (hl:(limbs n).length≤100000000) (s:Nat) (hs:n*2^k=s) :
  Calls Tryz.prog 92 #[v,.int .i64 (k:Int)] w fun e w'=>∃ z,e = .returned z∧Un w' z s∧Ext w w':=by
 subst hs
 exact (nW w v n k hk1 h hl).mono fun e w' ⟨⟨z,he,hz⟩,hb⟩=>⟨z,he,hz,hb⟩
end Go.Proofs.YtdpmbgomcjnohaaGreatDoor
namespace Go.Proofs.YtdpmbgomcjnohaaGreatDoor
open Go.RowKit
set_option linter.all false
set_option maxRecDepth 100000
set_option maxHeartbeats 8000000
theorem AY (w:World) (va vb:Value) (n m k:Nat) (ha:Un w va n) (hb:Un w vb m) (hn:(limbs n).length≤398) (hm:(limbs m).length≤398) (hk:n*m=k) :
  Calls Tryz.prog 128 #[va,vb] w fun e w'=>∃ u,e = .returned u∧Un w' u k∧Ext w w':=by
 have h0:=Lib.hid (nV w va vb n m k ha hb hn hm hk)
 clear ha hb hn hm hk
 go_enter Tryz.func128,Tryz.ntmps128
 go_wp2_with (fail)
 refine h0.out.mono ?_
 rintro e w1 ⟨u,rfl,hu,hB⟩
 have HF:Hid (∃ u',Ending.returned u = .returned u'∧Un w1 u' k∧Ext w w1):=⟨_,rfl,hu,hB⟩
 clear hu hB h0
 go_wp2
 go_ret
 exact HF.out
end Go.Proofs.YtdpmbgomcjnohaaGreatDoor
namespace Go.Proofs.YtdpmbgomcjnohaaGreatDoor
open Go.RowKit
set_option linter.all false
set_option maxRecDepth 100000
set_option maxHeartbeats 8000000
theorem AZ {w X Y:World} {p:Bool} {mp:Value} (h:(w.heap.size+1<X.heap.size∧X.cell? ⟨w.heap.size,0,none⟩=some (.bool p)∧X.cell? ⟨w.heap.size,1,none⟩=some mp)∧Ext w X) (k:Ext X Y):(w.heap.size+1<Y.heap.size∧Y.cell? ⟨w.heap.size,0,none⟩=some (.bool p)∧Y.cell? ⟨w.heap.size,1,none⟩=some mp)∧Ext w Y:=by
 obtain ⟨⟨h0,h1,h2⟩,hx⟩:=h
 have hs:=k.size
 exact ⟨⟨by omega,(k.cell (p:=⟨w.heap.size,0,none⟩) (by show w.heap.size<_;omega)).trans h1,(k.cell (p:=⟨w.heap.size,1,none⟩) (by show w.heap.size<_;omega)).trans h2⟩,hx.below k⟩
theorem Bc {w X:World} {p:Bool} {mp x y:Value} (h:(w.heap.size+1<X.heap.size∧X.cell? ⟨w.heap.size,0,none⟩=some (.bool p)∧X.cell? ⟨w.heap.size,1,none⟩=some mp)∧Ext w X):(w.heap.size+1<((X.setCell ⟨w.heap.size+1,0,none⟩ x).setCell ⟨w.heap.size+1,1,none⟩ y).heap.size∧((X.setCell ⟨w.heap.size+1,0,none⟩ x).setCell ⟨w.heap.size+1,1,none⟩ y).cell? ⟨w.heap.size,0,none⟩=some (.bool p)∧((X.setCell ⟨w.heap.size+1,0,none⟩ x).setCell ⟨w.heap.size+1,1,none⟩ y).cell? ⟨w.heap.size,1,none⟩=some mp)∧Ext w ((X.setCell ⟨w.heap.size+1,0,none⟩ x).setCell ⟨w.heap.size+1,1,none⟩ y):=by
 obtain ⟨⟨h0,h1,h2⟩,hx⟩:=h
 have hc:∀ a:Addr,a.block≠w.heap.size+1→((X.setCell ⟨w.heap.size+1,0,none⟩ x).setCell ⟨w.heap.size+1,1,none⟩ y).cell? a=X.cell? a:=fun a ha=>by
  rw [World.cell?_setCell_other _ _ _ _ (fun e=>ha (by rw [← e])),World.cell?_setCell_other _ _ _ _ (fun e=>ha (by rw [← e]))]
 refine ⟨⟨by simpa using h0,?_,?_⟩,hx.bW (by omega) _ _⟩
 · rw [hc _ (by show w.heap.size≠_;omega)];exact h1
 · rw [hc _ (by show w.heap.size≠_;omega)];exact h2
theorem qG {w X Y:World} {p q:Bool} {mp mq:Value} (h:(w.heap.size+1+1<X.heap.size∧X.cell? ⟨w.heap.size,0,none⟩=some (.bool p)∧X.cell? ⟨w.heap.size,1,none⟩=some mp∧X.cell? ⟨w.heap.size+1,0,none⟩=some (.bool q)∧X.cell? ⟨w.heap.size+1,1,none⟩=some mq)∧Ext w X) (k:Ext X Y):(w.heap.size+1+1<Y.heap.size∧Y.cell? ⟨w.heap.size,0,none⟩=some (.bool p)∧Y.cell? ⟨w.heap.size,1,none⟩=some mp∧Y.cell? ⟨w.heap.size+1,0,none⟩=some (.bool q)∧Y.cell? ⟨w.heap.size+1,1,none⟩=some mq)∧Ext w Y:=by
 obtain ⟨⟨h0,h1,h2,h3,h4⟩,hx⟩:=h
 have hs:=k.size
 exact ⟨⟨by omega,(k.cell (p:=⟨w.heap.size,0,none⟩) (by show w.heap.size<_;omega)).trans h1,(k.cell (p:=⟨w.heap.size,1,none⟩) (by show w.heap.size<_;omega)).trans h2,(k.cell (p:=⟨w.heap.size+1,0,none⟩) (by show w.heap.size+1<_;omega)).trans h3,(k.cell (p:=⟨w.heap.size+1,1,none⟩) (by show w.heap.size+1<_;omega)).trans h4⟩,hx.below k⟩
theorem qH {w X:World} {p q:Bool} {mp mq x y:Value} (h:(w.heap.size+1+1<X.heap.size∧X.cell? ⟨w.heap.size,0,none⟩=some (.bool p)∧X.cell? ⟨w.heap.size,1,none⟩=some mp∧X.cell? ⟨w.heap.size+1,0,none⟩=some (.bool q)∧X.cell? ⟨w.heap.size+1,1,none⟩=some mq)∧Ext w X):(w.heap.size+1+1<((X.setCell ⟨w.heap.size+1+1,0,none⟩ x).setCell ⟨w.heap.size+1+1,1,none⟩ y).heap.size∧((X.setCell ⟨w.heap.size+1+1,0,none⟩ x).setCell ⟨w.heap.size+1+1,1,none⟩ y).cell? ⟨w.heap.size,0,none⟩=some (.bool p)∧((X.setCell ⟨w.heap.size+1+1,0,none⟩ x).setCell ⟨w.heap.size+1+1,1,none⟩ y).cell? ⟨w.heap.size,1,none⟩=some mp∧((X.setCell ⟨w.heap.size+1+1,0,none⟩ x).setCell ⟨w.heap.size+1+1,1,none⟩ y).cell? ⟨w.heap.size+1,0,none⟩=some (.bool q)∧((X.setCell ⟨w.heap.size+1+1,0,none⟩ x).setCell ⟨w.heap.size+1+1,1,none⟩ y).cell? ⟨w.heap.size+1,1,none⟩=some mq)∧Ext w ((X.setCell ⟨w.heap.size+1+1,0,none⟩ x).setCell ⟨w.heap.size+1+1,1,none⟩ y):=by
 obtain ⟨⟨h0,h1,h2,h3,h4⟩,hx⟩:=h
 have hc:∀ a:Addr,a.block≠w.heap.size+1+1→((X.setCell ⟨w.heap.size+1+1,0,none⟩ x).setCell ⟨w.heap.size+1+1,1,none⟩ y).cell? a=X.cell? a:=fun a ha=>by
  rw [World.cell?_setCell_other _ _ _ _ (fun e=>ha (by rw [← e])),World.cell?_setCell_other _ _ _ _ (fun e=>ha (by rw [← e]))]
 refine ⟨⟨by simpa using h0,?_,?_,?_,?_⟩,hx.bW (by omega) _ _⟩
 · rw [hc _ (by show w.heap.size≠_;omega)];exact h1
 · rw [hc _ (by show w.heap.size≠_;omega)];exact h2
 · rw [hc _ (by show w.heap.size+1≠_;omega)];exact h3
 · rw [hc _ (by show w.heap.size+1≠_;omega)];exact h4
end Go.Proofs.YtdpmbgomcjnohaaGreatDoor
namespace Go.Proofs.YtdpmbgomcjnohaaGreatDoor
open Go.RowKit
set_option linter.all false
set_option maxRecDepth 100000
set_option maxHeartbeats 8000000
section
variable {P:Program} {T:TypeId} {x y:Operand} {a b:Nat} {za zb:Int}
theorem vw (h0:b≠0) (_:a≤a) (X:World):Pl.Bn P .rem T x y (.int .u32 ((a:Nat):Int)) (.int .u32 ((b:Nat):Int)) X = .ok (.int .u32 ((a%b:Nat):Int)) X:=Pl.AR (by omega) (Int.ofNat_tmod a b).symm X
theorem j5 (h0:b≠0) (_:a≤a) (X:World):Pl.Bn P .rem T x y (.int .i64 ((a:Nat):Int)) (.int .i64 ((b:Nat):Int)) X = .ok (.int .i64 ((a%b:Nat):Int)) X:=Pl.AR (by omega) (Int.ofNat_tmod a b).symm X
end
end Go.Proofs.YtdpmbgomcjnohaaGreatDoor
namespace Go.Proofs.YtdpmbgomcjnohaaGreatDoor.Dy
set_option linter.all false
set_option maxRecDepth 100000
set_option maxHeartbeats 8000000
theorem TQ {m e k f:Int} (h:Can m e) (heq:dv m e=dv k f) (h0:m≠0):f≤e:=by
 rcases (show e<f∨f≤e by omega) with hl | hl
 · obtain ⟨j,hj⟩:∃ j:Nat,f=e+j:=⟨(f-e).toNat,by omega⟩
   subst hj
   rw [← qh] at heq
   have h1:=JQ heq
   have:=pow_even (k:=j) (by omega) k
   rcases h with ⟨h2,_⟩ | h2<;>omega
 · exact hl
theorem VG (v:Rat):((cl v:Int):Rat)<v+1:=by
 have:=uM (-v)
 unfold cl
 rw [Rat.intCast_neg]
 grind
theorem Bd (v:Rat):jT 4 v=if v-v.floor<cl v-v∨v-v.floor=cl v-v∧v.floor%2=0 then v.floor else cl v:=by
 have f1:=rU v
 have f2:=uM v
 have hc:((v.floor:Int):Rat)<v→cl v=v.floor+1:=fun h=>LZ (by grind)
 have he:¬ ((v.floor:Int):Rat)<v→cl v=v.floor:=fun h=>by
  have e:v=((v.floor:Int):Rat):=by grind
  generalize v.floor=n at *
  subst e
  exact Be n
 unfold jT
 generalize v.floor=n at *
 generalize cl v=c at *
 by_cases h:(n:Rat)<v
 · have:=hc h
   subst this
   have e:(((n+1:Int)):Rat)=(n:Rat)+1:=by rw [Rat.intCast_add];rfl
   rw [e]
   simp
   grind
 · have:=he h
   subst this
   simp
theorem x8 (n:Int):(2:Rat)^n*2^(-n)=1:=by rw [← pE,Int.add_right_neg];rfl
theorem sM (v:Rat) (n:Int):v*2^n*2^(-n)=v:=by rw [Rat.mul_assoc,x8,Rat.mul_one]
theorem wZ {a b s:Rat} (hs:0<s):a*s≤b*s↔a≤b:=by
 rw [← Rat.not_lt,Rat.mul_lt_mul_right hs,Rat.not_lt]
theorem yE (v:Rat) (n:Int):cut 0 v n≤v∧v<cut 0 v n+2^(-n):=by
 have h1:=rU (v*2^n)
 have h2:=uM (v*2^n)
 have hb:=sM v n
 have hs:=yF (-n)
 rw [sN]
 unfold jT
 rw [if_pos rfl]
 generalize (v*2^n).floor=f at *
 generalize v*2^n=u at *
 generalize (2:Rat)^(-n)=s at *
 subst hb
 refine ⟨(wZ hs).2 h1,?_⟩
 have:=(Rat.mul_lt_mul_right (a:=u) (b:=(f:Rat)+1) hs).2 h2
 grind
theorem vB (v:Rat) (n:Int):v≤cut 1 v n∧cut 1 v n-2^(-n)<v:=by
 have h1:=Me (v*2^n)
 have h2:=VG (v*2^n)
 have hb:=sM v n
 have hs:=yF (-n)
 rw [sN]
 unfold jT
 rw [if_neg (by decide),if_pos rfl]
 generalize cl (v*2^n)=f at *
 generalize v*2^n=u at *
 generalize (2:Rat)^(-n)=s at *
 subst hb
 refine ⟨(wZ hs).2 h1,?_⟩
 have:=(Rat.mul_lt_mul_right (a:=(f:Rat)) (b:=u+1) hs).2 h2
 grind
theorem BO {v:Rat} (n:Int):v*2^n<0↔v<0:=by
 have hs:=yF n
 have:=Rat.mul_lt_mul_right (a:=v) (b:=0) hs
 rw [Rat.zero_mul] at this
 exact this
theorem Ht (v:Rat) (n:Int):cut 2 v n=if v<0 then cut 1 v n else cut 0 v n:=by
 have:=BO (v:=v) n
 simp only [sN]
 unfold jT
 by_cases h:v<0<;>simp [h,this]
theorem Eb (v:Rat) (n:Int):cut 3 v n=if v<0 then cut 0 v n else cut 1 v n:=by
 have:=BO (v:=v) n
 simp only [sN]
 unfold jT
 by_cases h:v<0<;>simp [h,this]
theorem vC (v:Rat) (n:Int):(cut 4 v n=cut 0 v n∨cut 4 v n=cut 1 v n)∧(v-cut 4 v n)*2≤2^(-n)∧(cut 4 v n-v)*2≤2^(-n):=by
 have h1:=rU (v*2^n)
 have h2:=uM (v*2^n)
 have h3:=Me (v*2^n)
 have h4:((v*2^n).floor:Rat)<v*2^n→cl (v*2^n)=(v*2^n).floor+1:=fun h=>LZ (by grind)
 have h5:((cl (v*2^n):Int):Rat)<v*2^n+1:=VG _
 have hb:=sM v n
 have hs:=yF (-n)
 have hn:=Bd (v*2^n)
 have e0:cut 0 v n=(((v*2^n).floor:Int):Rat)*2^(-n):=by rw [sN];rfl
 have e1:cut 1 v n=((cl (v*2^n):Int):Rat)*2^(-n):=by rw [sN];rfl
 have e4:=sN 4 v n
 have hq:((jT 4 (v*2^n)=(v*2^n).floor)∨jT 4 (v*2^n)=cl (v*2^n))∧(v*2^n-((jT 4 (v*2^n):Int):Rat))*2≤1∧(((jT 4 (v*2^n):Int):Rat)-v*2^n)*2≤1:=by
  rw [hn]
  generalize (v*2^n).floor=f at *
  generalize cl (v*2^n)=c at *
  generalize v*2^n=u at *
  by_cases hx:(f:Rat)<u
  · have:=h4 hx
    subst this
    have e:(((f+1:Int)):Rat)=(f:Rat)+1:=by rw [Rat.intCast_add];rfl
    rw [e] at *
    split
    · refine ⟨.inl rfl,?_,?_⟩<;>grind
    · refine ⟨.inr rfl,?_,?_⟩<;>(try rw [e])<;>grind
  · have hu:u=f:=by grind
    have hc:c=f:=by
     have a1:c<f+1:=Rat.intCast_lt_intCast.1 (by rw [Rat.intCast_add];rw [hu] at h5;exact h5)
     have a2:f≤c:=Rat.intCast_le_intCast.1 (by rw [← hu];exact h3)
     omega
    subst hc
    refine ⟨.inl (by split<;>rfl),?_,?_⟩<;>(split<;>grind)
 obtain ⟨k1,k2,k3⟩:=hq
 rw [e0,e1,e4]
 generalize jT 4 (v*2^n)=r at *
 generalize (v*2^n).floor=f at *
 generalize cl (v*2^n)=c at *
 generalize v*2^n=u at *
 generalize (2:Rat)^(-n)=s at *
 subst hb
 refine ⟨?_,?_,?_⟩
 · rcases k1 with rfl | rfl
   · exact .inl rfl
   · exact .inr rfl
 · have:=(wZ hs).2 k2
   grind
 · have:=(wZ hs).2 k3
   grind
end Go.Proofs.YtdpmbgomcjnohaaGreatDoor.Dy
namespace Go.Proofs.YtdpmbgomcjnohaaGreatDoor.Rq
set_option linter.all false
set_option maxRecDepth 100000
set_option maxHeartbeats 8000000
theorem rV {a b:Rat}:a<b↔a.num*b.den<b.num*a.den:=Rat.lt_iff a b
theorem cmp_eq {a b:Rat}:a=b↔a.num*b.den=b.num*a.den:=Rat.eq_iff_mul_eq_mul
theorem Bf (a b:Rat):Rat.divInt (a.num*b.den+b.num*a.den) ((a.den*b.den:Nat):Int)=a+b:=by rw [Rat.divInt_ofNat,Rat.add_def']
theorem Bg (a b:Rat):Rat.divInt (a.num*b.num) ((a.den*b.den:Nat):Int)=a*b:=by rw [Rat.divInt_ofNat,Rat.mul_def']
theorem sign_neg {a:Rat}:a<0↔a.num<0:=by
 rw [Rat.lt_iff]
 show a.num*1<0*_↔_
 omega
theorem sign_zero {a:Rat}:a=0↔a.num=0:=Rat.num_eq_zero.symm
end Go.Proofs.YtdpmbgomcjnohaaGreatDoor.Rq
namespace Go.Proofs.YtdpmbgomcjnohaaGreatDoor
open Go.RowKit
set_option linter.all false
set_option maxRecDepth 100000
set_option maxHeartbeats 8000000
section
variable {P:Program} {T:TypeId} {x y:Operand} {a b:Int}
theorem xe (h:a≤b) (X:World):Pl.Bn P .leq T x y (.int .i64 a) (.int .i64 b) X = .ok (.bool true) X:=Pl.Hl (decide_eq_true h) X
theorem BP (h:¬ a≤b) (X:World):Pl.Bn P .leq T x y (.int .i64 a) (.int .i64 b) X = .ok (.bool false) X:=Pl.Hl (decide_eq_false h) X
end
end Go.Proofs.YtdpmbgomcjnohaaGreatDoor
namespace Go.Proofs.YtdpmbgomcjnohaaGreatDoor
open Go.RowKit
set_option linter.all false
set_option maxRecDepth 100000
set_option maxHeartbeats 8000000
theorem x9 (p q:Bool) (n m:Nat):sg (!(p==q)) (n*m)=sg p n*sg q m:=by
 cases p<;>cases q<;>simp [sg,Int.mul_neg,Int.neg_mul]
end Go.Proofs.YtdpmbgomcjnohaaGreatDoor
namespace Go.Proofs.YtdpmbgomcjnohaaGreatDoor
open Go.RowKit
set_option linter.all false
set_option maxRecDepth 100000
set_option maxHeartbeats 8000000
theorem Ae (w:World) (v:Value) (b:Bool) (xs:List Nat) (h:Ri w v b xs) (r:Bool) (hr:(eO xs&&!(b&&decide (xs.length=0)))=r) :
  Calls Tryz.prog 61 #[v] w fun e w'=>e = .returned (.bool r)∧Ext w w':=by
 obtain ⟨A,c,rfl,hu⟩:=h
 have hE0:=(Ext.refl w).alloc (.cells #[.bool b,.slice A xs.length c] 24)
 have gY:=Ib.new w b (.slice A xs.length c) 24
 have hu0:=hu.below hE0
 obtain ⟨q,hq⟩:∃ q,eO xs=q:=⟨_,rfl⟩
 have hR:=Lib.hid (BN _ _ xs hu0 q hq)
 rw [hq] at hr
 obtain ⟨L,hL⟩:∃ L,xs.length=L:=⟨_,rfl⟩
 rw [hL] at hr hR gY hE0 ⊢
 clear hq hL hu0 hu
 by_cases h0:L=0
 · subst h0
   cases b<;>cases q
   all_goals (
    subst hr
    go_enter Tryz.func61,Tryz.ntmps61
    go_wp2_with (go_at_call 99;refine hR.out.mono ?_;rintro e w2 ⟨rfl,hE2⟩;obtain ⟨p0,p1,p2,p3,p4⟩:=gY.ext hE2)
    go_ret
    exact ⟨by first | rfl | simp,hE0.below hE2⟩)
 · have h3:(0:Int)<(L:Int):=by omega
   have h4:0<L:=by omega
   rw [decide_eq_false h0] at hr
   cases b<;>cases q
   all_goals (
    subst hr
    go_enter Tryz.func61,Tryz.ntmps61
    go_wp2_with (go_at_call 99;refine hR.out.mono ?_;rintro e w2 ⟨rfl,hE2⟩;obtain ⟨p0,p1,p2,p3,p4⟩:=gY.ext hE2)
    go_ret
    exact ⟨by first | rfl | simp,hE0.below hE2⟩)
theorem Bh (w:World) (v:Value) (z:Int) (h:Zn w v z) (hl:(limbs z.natAbs).length≤1000000) (k:Int) (hk:Int.sign z=k) :
  Calls Tryz.prog 52 #[v] w fun e w'=>e = .returned (.int .i64 k)∧Ext w w':=by
 have hk2:bZ z 0=k:=by
  rw [← hk]
  unfold bZ
  rcases Int.lt_trichotomy z 0 with h | h | h
  · rw [if_pos h,Int.sign_eq_neg_one_of_neg h]
  · subst h;rfl
  · rw [if_neg (by omega),if_pos h,Int.sign_eq_one_of_pos h]
 have h':=h
 obtain ⟨p,A,L,c,rfl⟩:=h.sh
 have hE0:=(Ext.refl w).alloc (.cells #[.bool p,.slice A L c] 24)
 have hC:=Lib.hid (Bi _ _ _ z 0 (h'.below hE0) (Zn.zero _ none 0) hl (by rw [show Int.natAbs 0=0 from rfl,aX];decide) k hk2)
 clear hk hk2 hl h h'
 go_enter Tryz.func52,Tryz.ntmps52
 go_wp2_with (go_at_call 89;refine hC.out.mono ?_;rintro e w2 ⟨rfl,hE2⟩)
 go_ret
 exact ⟨rfl,hE0.below hE2⟩
end Go.Proofs.YtdpmbgomcjnohaaGreatDoor
namespace Go.Proofs.YtdpmbgomcjnohaaGreatDoor
open Go.RowKit
set_option linter.all false
set_option maxRecDepth 100000
set_option maxHeartbeats 8000000
theorem nX (w:World) (p:Bool) (A B:Option Addr) (L K c d n m:Nat) (hu:Un w (.slice A L c) n) (hv:Un w (.slice B K d) m) (hl:(limbs n).length≤1000000) (hl2:(limbs m).length≤1000000) (y:Int) (hy:sg p (n+m)=y) :
  Calls Tryz.prog 55 #[.agg #[.bool p,.slice A L c],.agg #[.bool p,.slice B K d]] w fun e w'=>∃ u,e = .returned u∧Zn w' u y∧Ext w w':=by
 have hE0:=((((Ext.refl w).alloc (.cells #[.bool p,.slice A L c] 24)).alloc (.cells #[.bool p,.slice B K d] 24)).alloc (.cells #[.bool false,.slice none 0 0] 24)).drew
 have hI0:=(Ib.rW w (.cells #[.bool p,.slice A L c] 24) (.cells #[.bool p,.slice B K d] 24) false (.slice none 0 0) 24).ext (Ext.refl _).drew
 have gY:=(Ib.new w p (.slice A L c) 24).ext ((((Ext.refl _).alloc (.cells #[.bool p,.slice B K d] 24)).alloc (.cells #[.bool false,.slice none 0 0] 24)).drew)
 have nY:=(Ib.new2 w (.cells #[.bool p,.slice A L c] 24) p (.slice B K d) 24).ext (((Ext.refl _).alloc (.cells #[.bool false,.slice none 0 0] 24)).drew)
 have hS0:(w.heap.size+1+1<(((w.alloc (.cells #[.bool p,.slice A L c] 24)).alloc (.cells #[.bool p,.slice B K d] 24)).alloc (.cells #[.bool false,.slice none 0 0] 24)).drew.heap.size∧(((w.alloc (.cells #[.bool p,.slice A L c] 24)).alloc (.cells #[.bool p,.slice B K d] 24)).alloc (.cells #[.bool false,.slice none 0 0] 24)).drew.cell? ⟨w.heap.size,0,none⟩=some (.bool p)∧(((w.alloc (.cells #[.bool p,.slice A L c] 24)).alloc (.cells #[.bool p,.slice B K d] 24)).alloc (.cells #[.bool false,.slice none 0 0] 24)).drew.cell? ⟨w.heap.size,1,none⟩=some (.slice A L c)∧(((w.alloc (.cells #[.bool p,.slice A L c] 24)).alloc (.cells #[.bool p,.slice B K d] 24)).alloc (.cells #[.bool false,.slice none 0 0] 24)).drew.cell? ⟨w.heap.size+1,0,none⟩=some (.bool p)∧(((w.alloc (.cells #[.bool p,.slice A L c] 24)).alloc (.cells #[.bool p,.slice B K d] 24)).alloc (.cells #[.bool false,.slice none 0 0] 24)).drew.cell? ⟨w.heap.size+1,1,none⟩=some (.slice B K d))∧Ext w (((w.alloc (.cells #[.bool p,.slice A L c] 24)).alloc (.cells #[.bool p,.slice B K d] 24)).alloc (.cells #[.bool false,.slice none 0 0] 24)).drew:=⟨⟨by simp,gY.2.1,gY.2.2.1,nY.2.1,nY.2.2.1⟩,hE0⟩
 have hu0:=hu.below hE0
 have hv0:=hv.below hE0
 have hsl:(limbs (n+m)).length≤1000000000:=by
  have h1:=cO hl
  have h2:=cO hl2
  refine Nat.le_trans (iO (k:=1000000+1) ?_) (by omega)
  obtain ⟨E,hE⟩:∃ E,1000000=E:=⟨_,rfl⟩
  rw [hE] at h1 h2 ⊢
  rw [Nat.pow_succ]
  have:LB^E*2≤LB^E*LB:=Nat.mul_le_mul_left _ (by unfold LB;decide)
  unfold LB at *
  omega
 have hA:=Lib.hid (fun W h g=>EO W (.slice A L c) (.slice B K d) n m h g (by omega) (by omega) _ rfl)
 have hM:=Lib.hid (fun W v (h:Un W v (n+m))=>eY W p v (limbs (n+m)) h hsl _ (aH _) y hy)
 clear hl hl2 hu hv hy gY nY hsl
 all_goals (
  go_enter Tryz.func55,Tryz.ntmps55
  go_wp2
  go_region_held3 (fun X=>(w.heap.size+1+1<X.heap.size∧X.cell? ⟨w.heap.size,0,none⟩=some (.bool p)∧X.cell? ⟨w.heap.size,1,none⟩=some (.slice A L c)∧X.cell? ⟨w.heap.size+1,0,none⟩=some (.bool p)∧X.cell? ⟨w.heap.size+1,1,none⟩=some (.slice B K d))∧Ext w X)
   (first
    | assumption
    | exact hS0
    | exact qG (by assumption) (by assumption)
    | exact qH (by assumption))
   (first
    | (go_at_call 95;((with_reducible refine (hA.out _ hu0 hv0).mono ?_);rintro e w2 ⟨u,rfl,hu2,hE2⟩;obtain ⟨A2,c2,rfl,-⟩:=Un.sh hu2))
    | (go_at_call 62;((with_reducible refine (hM.out _ _ hu2).mono ?_);rintro e w3 ⟨u,rfl,hz3,aJ⟩;obtain ⟨b3,A3,L3,c3,rfl⟩:=hz3.sh;have jl:=(hI0.ext hE2).ext aJ;obtain ⟨i0,i1,i2,i3,i4⟩:=id jl)))
  clear jl hA hM
  go_wp2
  (try simp only [Exit.inBlock,Exit.then])
  refine bodyPost_ret (v:=.agg #[.bool b3,.slice A3 L3 c3]) (show (results _ _).run _ _=_ from ?_) rfl ⟨_,rfl,hz3.bW ((hI0.ext hE2).ext aJ) (aM _ _ _) _ _,((hE0.below hE2).below aJ).bW (by omega) _ _⟩
  simp only [results]
  go_simp)
theorem mF (w:World) (p:Bool) (A B:Option Addr) (L K c d n m:Nat) (hu:Un w (.slice A L c) n) (hv:Un w (.slice B K d) m) (hl:(limbs n).length≤1000000) (hl2:(limbs m).length≤1000000) (y:Int) (hy:(if m≤n then sg p (n-m) else sg (!p) (m-n))=y) :
  Calls Tryz.prog 55 #[.agg #[.bool p,.slice A L c],.agg #[.bool (!p),.slice B K d]] w fun e w'=>∃ u,e = .returned u∧Zn w' u y∧Ext w w':=by
 have hE0:=(((Ext.refl w).alloc (.cells #[.bool p,.slice A L c] 24)).alloc (.cells #[.bool (!p),.slice B K d] 24)).alloc (.cells #[.bool false,.slice none 0 0] 24)
 have hI0:=Ib.rW w (.cells #[.bool p,.slice A L c] 24) (.cells #[.bool (!p),.slice B K d] 24) false (.slice none 0 0) 24
 have gY:=(Ib.new w p (.slice A L c) 24).ext (((Ext.refl _).alloc (.cells #[.bool (!p),.slice B K d] 24)).alloc (.cells #[.bool false,.slice none 0 0] 24))
 have nY:=(Ib.new2 w (.cells #[.bool p,.slice A L c] 24) (!p) (.slice B K d) 24).ext ((Ext.refl _).alloc (.cells #[.bool false,.slice none 0 0] 24))
 have hu0:=hu.below hE0
 have hv0:=hv.below hE0
 obtain ⟨d1,hd1⟩:∃ d,n-m=d:=⟨_,rfl⟩
 obtain ⟨d2,hd2⟩:∃ d,m-n=d:=⟨_,rfl⟩
 have hl3:(limbs d1).length≤1000000000:=by have:=fC (show d1≤n by omega);omega
 have hl4:(limbs d2).length≤1000000000:=by have:=fC (show d2≤m by omega);omega
 rw [hd1,hd2] at hy
 by_cases h0:m≤n
 · rw [if_pos h0] at hy
   have hA:=Lib.hid (fun W h g=>pF W (.slice A L c) (.slice B K d) n m h g (by omega) (by omega) true (decide_eq_true h0) d1 hd1)
   have hM:=Lib.hid (fun W v (h:Un W v d1)=>eY W p v (limbs d1) h hl3 _ (aH _) y hy)
   clear hl hl2 hu hv hy hl3 hl4 hd1 hd2 h0
   cases p
   all_goals (
    go_enter Tryz.func55,Tryz.ntmps55
    go_wp2_with (first
     | (go_at_call 96;refine (hA.out _ hu0 hv0).mono ?_;rintro e w2 ⟨u,rfl,hu2,hE2⟩;obtain ⟨A2,c2,rfl,-⟩:=Un.sh hu2;obtain ⟨p0,p1,p2,p3,p4⟩:=gY.ext hE2;obtain ⟨q0,q1,q2,q3,q4⟩:=nY.ext hE2)
     | (go_at_call 62;refine (hM.out _ _ hu2).mono ?_;rintro e w3 ⟨u,rfl,hz3,aJ⟩;obtain ⟨b3,A3,L3,c3,rfl⟩:=hz3.sh;have jl:=(hI0.ext hE2).ext aJ;obtain ⟨i0,i1,i2,i3,i4⟩:=id jl))
    (try simp only [Exit.inBlock,Exit.then])
    refine bodyPost_ret (v:=.agg #[.bool b3,.slice A3 L3 c3]) (show (results _ _).run _ _=_ from ?_) rfl ⟨_,rfl,hz3.bW ((hI0.ext hE2).ext aJ) (aM _ _ _) _ _,((hE0.below hE2).below aJ).bW (by omega) _ _⟩
    simp only [results]
    go_simp)
 · rw [if_neg h0] at hy
   have hA:=Lib.hid (fun W h g=>pF W (.slice A L c) (.slice B K d) n m h g (by omega) (by omega) false (decide_eq_false h0) d1 hd1)
   have hA2:=Lib.hid (fun W h g=>pF W (.slice B K d) (.slice A L c) m n h g (by omega) (by omega) _ rfl d2 hd2)
   have hM:=Lib.hid (fun W v (h:Un W v d2)=>eY W (!p) v (limbs d2) h hl4 _ (aH _) y hy)
   clear hl hl2 hu hv hy hl3 hl4 hd1 hd2 h0
   cases p
   all_goals (
    go_enter Tryz.func55,Tryz.ntmps55
    go_upto_region 6 with (go_at_call 96;refine (hA.out _ hu0 hv0).mono ?_;rintro e w2 ⟨u,rfl,hu2,hE2⟩;obtain ⟨A2,c2,rfl,-⟩:=Un.sh hu2;obtain ⟨p0,p1,p2,p3,p4⟩:=gY.ext hE2;obtain ⟨q0,q1,q2,q3,q4⟩:=nY.ext hE2)
    go_wp2_with (first
     | (go_at_call 96;refine (hA2.out _ (Un.below hv0 hE2) (Un.below hu0 hE2)).mono ?_;rintro e w4 ⟨u,rfl,D5,aP⟩;obtain ⟨A4,c4,rfl,-⟩:=Un.sh D5;obtain ⟨p0,p1,p2,p3,p4⟩:=(gY.ext hE2).ext aP;obtain ⟨q0,q1,q2,q3,q4⟩:=(nY.ext hE2).ext aP)
     | (go_at_call 62;refine (hM.out _ _ D5).mono ?_;rintro e w3 ⟨u,rfl,hz3,aJ⟩;obtain ⟨b3,A3,L3,c3,rfl⟩:=hz3.sh;have jl:=((hI0.ext hE2).ext aP).ext aJ;obtain ⟨i0,i1,i2,i3,i4⟩:=id jl))
    (try simp only [Exit.inBlock,Exit.then])
    refine bodyPost_ret (v:=.agg #[.bool b3,.slice A3 L3 c3]) (show (results _ _).run _ _=_ from ?_) rfl ⟨_,rfl,hz3.bW (((hI0.ext hE2).ext aP).ext aJ) (aM _ _ _) _ _,(((hE0.below hE2).below aP).below aJ).bW (by omega) _ _⟩
    simp only [results]
    go_simp)
theorem GX (w:World) (va vb:Value) (a b:Int) (ha:Zn w va a) (hb:Zn w vb b) (hl:(limbs a.natAbs).length≤1000000) (hl2:(limbs b.natAbs).length≤1000000) (y:Int) (hy:a+b=y) :
  Calls Tryz.prog 55 #[va,vb] w fun e w'=>∃ u,e = .returned u∧Zn w' u y∧Ext w w':=by
 obtain ⟨p,A,L,c,n,rfl,hu,hL,hz,-,hza,hzn⟩:=ha.open
 obtain ⟨q,B,K,d,m,rfl,hv,hK,hz2,-,jr,lK⟩:=hb.open
 rw [hza] at hl
 rw [jr] at hl2
 rw [hz,hz2] at hy
 by_cases h:q=p
 · subst h
   exact nX w q A B L K c d n m hu hv hl hl2 y ((mG _ _ _).trans hy)
 · obtain rfl:q = !p:=by cases p<;>cases q<;>first | rfl | exact absurd rfl h
   exact mF w p A B L K c d n m hu hv hl hl2 y ((kW _ _ _).trans hy)
theorem jA (w:World) (va vb:Value) (a b:Int) (ha:Zn w va a) (hb:Zn w vb b) (hl:(limbs a.natAbs).length≤398) (hl2:(limbs b.natAbs).length≤398) (y:Int) (hy:a*b=y) :
  Calls Tryz.prog 91 #[va,vb] w fun e w'=>∃ u,e = .returned u∧Zn w' u y∧Ext w w':=by
 obtain ⟨p,A,L,c,n,rfl,hu,hL,hz,-,hza,hzn⟩:=ha.open
 obtain ⟨q,B,K,d,m,rfl,hv,hK,hz2,-,jr,lK⟩:=hb.open
 rw [hza] at hl
 rw [jr] at hl2
 obtain ⟨k,hk⟩:∃ k,n*m=k:=⟨_,rfl⟩
 have hM:=Lib.hid (fun W h g=>AY W (.slice A L c) (.slice B K d) n m k h g hl hl2 hk)
 have hkl:(limbs k).length≤1000000000:=by
  have:=qI n m
  rw [hk] at this
  omega
 have Pg:=Lib.hid (fun W v (h:Un W v k)=>eY W (!(p==q)) v (limbs k) h hkl k (aH _) y (by rw [← hk,x9,← hz,← hz2];exact hy))
 have hE0:=((((Ext.refl w).alloc (.cells #[.bool p,.slice A L c] 24)).alloc (.cells #[.bool q,.slice B K d] 24)).alloc (.cells #[.bool false,.slice none 0 0] 24)).drew
 have hI0:=(Ib.rW w (.cells #[.bool p,.slice A L c] 24) (.cells #[.bool q,.slice B K d] 24) false (.slice none 0 0) 24).ext (Ext.refl _).drew
 have gY:=(Ib.new w p (.slice A L c) 24).ext ((((Ext.refl _).alloc (.cells #[.bool q,.slice B K d] 24)).alloc (.cells #[.bool false,.slice none 0 0] 24)).drew)
 have nY:=(Ib.new2 w (.cells #[.bool p,.slice A L c] 24) q (.slice B K d) 24).ext (((Ext.refl _).alloc (.cells #[.bool false,.slice none 0 0] 24)).drew)
 have hu0:=hu.below hE0
 have hv0:=hv.below hE0
 obtain ⟨p0,p1,p2,p3,p4⟩:=id gY
 obtain ⟨q0,q1,q2,q3,q4⟩:=id nY
 clear hl hl2 hza hzn jr lK hz hz2 hL hK ha hb hy hk
 go_enter Tryz.func91,Tryz.ntmps91
 have hS0:(w.heap.size+1+1<(((w.alloc (.cells #[.bool p,.slice A L c] 24)).alloc (.cells #[.bool q,.slice B K d] 24)).alloc (.cells #[.bool false,.slice none 0 0] 24)).drew.heap.size∧(((w.alloc (.cells #[.bool p,.slice A L c] 24)).alloc (.cells #[.bool q,.slice B K d] 24)).alloc (.cells #[.bool false,.slice none 0 0] 24)).drew.cell? ⟨w.heap.size,0,none⟩=some (.bool p)∧(((w.alloc (.cells #[.bool p,.slice A L c] 24)).alloc (.cells #[.bool q,.slice B K d] 24)).alloc (.cells #[.bool false,.slice none 0 0] 24)).drew.cell? ⟨w.heap.size,1,none⟩=some (.slice A L c)∧(((w.alloc (.cells #[.bool p,.slice A L c] 24)).alloc (.cells #[.bool q,.slice B K d] 24)).alloc (.cells #[.bool false,.slice none 0 0] 24)).drew.cell? ⟨w.heap.size+1,0,none⟩=some (.bool q)∧(((w.alloc (.cells #[.bool p,.slice A L c] 24)).alloc (.cells #[.bool q,.slice B K d] 24)).alloc (.cells #[.bool false,.slice none 0 0] 24)).drew.cell? ⟨w.heap.size+1,1,none⟩=some (.slice B K d))∧Ext w (((w.alloc (.cells #[.bool p,.slice A L c] 24)).alloc (.cells #[.bool q,.slice B K d] 24)).alloc (.cells #[.bool false,.slice none 0 0] 24)).drew:=⟨⟨by simp,p1,p2,q1,q2⟩,hE0⟩
 clear p0 p1 p2 p3 p4 q0 q1 q2 q3 q4
 go_wp2
 go_region_held3 (fun X=>(w.heap.size+1+1<X.heap.size∧X.cell? ⟨w.heap.size,0,none⟩=some (.bool p)∧X.cell? ⟨w.heap.size,1,none⟩=some (.slice A L c)∧X.cell? ⟨w.heap.size+1,0,none⟩=some (.bool q)∧X.cell? ⟨w.heap.size+1,1,none⟩=some (.slice B K d))∧Ext w X)
  (first
   | exact hS0
   | exact qG (by assumption) (by assumption)
   | exact qH (by assumption))
  (first
   | (go_at_call 128;((with_reducible refine (hM.out _ hu0 hv0).mono ?_);rintro e w2 ⟨u,rfl,hu2,hE2⟩;obtain ⟨A2,c2,rfl,hc2⟩:=Un.sh hu2))
   | (go_at_call 62;((with_reducible refine (Pg.out _ _ hu2).mono ?_);rintro e w3 ⟨u,rfl,hz3,aJ⟩;obtain ⟨b3,A3,L3,c3,rfl⟩:=hz3.sh;have jl:=(hI0.ext hE2).ext aJ;obtain ⟨i0,i1,i2,i3,i4⟩:=id jl)))
 clear jl hM Pg
 go_wp2
 (try simp only [Exit.inBlock,Exit.then])
 refine bodyPost_ret (v:=.agg #[.bool b3,.slice A3 L3 c3]) (show (results _ _).run _ _=_ from ?_) rfl ⟨_,rfl,hz3.bW ((hI0.ext hE2).ext aJ) (aM _ _ _) _ _,((hE0.below hE2).below aJ).bW (by omega) _ _⟩
 simp only [results]
 go_simp
end Go.Proofs.YtdpmbgomcjnohaaGreatDoor
namespace Go.Proofs.YtdpmbgomcjnohaaGreatDoor
open Go.RowKit
set_option linter.all false
set_option maxRecDepth 100000
set_option maxHeartbeats 8000000
theorem Bj (w:World) (va:Value) (b:Bool) (xs:List Nat) (ha:Ri w va b xs) (k:Int) (hk0:0≤k) (hk1:k≤1000000) (n:Nat) (hn:dM xs k.toNat=n) (hl:(limbs n).length≤1000000) (y:Int) (hy:sg b n=y) :
  Calls Tryz.prog 16 #[va,.int .i64 k] w fun e w'=>∃ u,e = .returned u∧Zn w' u y∧Ext w w':=by
 obtain ⟨A,c,rfl,hu⟩:=ha
 obtain ⟨L,hL⟩:∃ L,xs.length=L:=⟨_,rfl⟩
 have Ph:=Lib.hid (fun W h=>uY W (.slice A xs.length c) xs k h hk0 (by omega) n hn)
 rw [hL] at Ph hu ⊢
 have hE0:=(((Ext.refl w).alloc (.cells #[.bool b,.slice A L c] 24)).alloc (.cells #[.bool false,.slice none 0 0] 24)).drew
 have hI0:=(Ib.new2 w (.cells #[.bool b,.slice A L c] 24) false (.slice none 0 0) 24).ext (Ext.refl _).drew
 have gY:=(Ib.new w b (.slice A L c) 24).ext (((Ext.refl _).alloc (.cells #[.bool false,.slice none 0 0] 24)).drew)
 have hS0:(w.heap.size+1<((w.alloc (.cells #[.bool b,.slice A L c] 24)).alloc (.cells #[.bool false,.slice none 0 0] 24)).drew.heap.size∧((w.alloc (.cells #[.bool b,.slice A L c] 24)).alloc (.cells #[.bool false,.slice none 0 0] 24)).drew.cell? ⟨w.heap.size,0,none⟩=some (.bool b)∧((w.alloc (.cells #[.bool b,.slice A L c] 24)).alloc (.cells #[.bool false,.slice none 0 0] 24)).drew.cell? ⟨w.heap.size,1,none⟩=some (.slice A L c))∧Ext w ((w.alloc (.cells #[.bool b,.slice A L c] 24)).alloc (.cells #[.bool false,.slice none 0 0] 24)).drew:=⟨⟨by simp,gY.2.1,gY.2.2.1⟩,hE0⟩
 have hu0:=hu.below hE0
 have hM1:=Lib.hid (fun W v (h:Un W v n)=>eY W b v (limbs n) h (by omega) n (aH _) y hy)
 clear gY hy hn hL hl hu hk0 hk1
 go_enter Tryz.func16,Tryz.ntmps16
 go_wp2
 go_region_held3 (fun X=>(w.heap.size+1<X.heap.size∧X.cell? ⟨w.heap.size,0,none⟩=some (.bool b)∧X.cell? ⟨w.heap.size,1,none⟩=some (.slice A L c))∧Ext w X)
  (first
   | assumption
   | with_reducible exact hS0
   | with_reducible exact Bc (by assumption)
   | exact AZ (by assumption) (by assumption))
  (first
   | (go_at_call 63;((with_reducible refine (Ph.out _ hu0).mono ?_);rintro e w2 ⟨u,rfl,hu2,hE2⟩;obtain ⟨A2,c2,rfl,-⟩:=Un.sh hu2))
   | (go_at_call 62;((with_reducible refine (hM1.out _ _ hu2).mono ?_);rintro e w3 ⟨u,rfl,hz3,aJ⟩;obtain ⟨b3,A3,L3,c3,rfl⟩:=hz3.sh;have jl:=(hI0.ext hE2).ext aJ;obtain ⟨i0,i1,i2,i3,i4⟩:=id jl)))
 clear jl Ph hM1
 go_wp2
 (try simp only [Exit.inBlock,Exit.then])
 refine bodyPost_ret (v:=.agg #[.bool b3,.slice A3 L3 c3]) (show (results _ _).run _ _=_ from ?_) rfl ⟨_,rfl,hz3.bW ((hI0.ext hE2).ext aJ) (aM _ _ _) _ _,((hE0.below hE2).below aJ).bW (by omega) _ _⟩
 simp only [results]
 go_simp
end Go.Proofs.YtdpmbgomcjnohaaGreatDoor
namespace Go.Proofs.YtdpmbgomcjnohaaGreatDoor
open Go.RowKit
set_option linter.all false
set_option maxRecDepth 100000
set_option maxHeartbeats 8000000
theorem qJ (a:Int) (i:Nat):shl a (-(i:Int))=a/2^i:=by
 unfold shl
 rcases Nat.eq_zero_or_pos i with rfl | h
 · simp
 · rw [if_neg (by omega),Int.neg_neg];rfl
theorem l6 (w:World) (va:Value) (b:Bool) (xs:List Nat) (ha:Ri w va b xs) (k:Nat) (z:Int) (hz:z=(k:Int)) (hk1:k≤1000000) (y:Int) (hy:sg b (dM xs k)=y) :
  Calls Tryz.prog 16 #[va,.int .i64 z] w fun e w'=>∃ u,e = .returned u∧Zn w' u y∧Ext w w':=by
 subst hz
 obtain ⟨A,c,e,hu⟩:=id ha
 exact Bj w va b xs ha (k:Int) (by omega) (by omega) (dM xs k) rfl (Nat.le_trans (kX xs k hu.lim) hk1) y hy
end Go.Proofs.YtdpmbgomcjnohaaGreatDoor
namespace Go.Proofs.YtdpmbgomcjnohaaGreatDoor.Rf
open Go Go.RowKit Go.Proofs.YtdpmbgomcjnohaaGreatDoor.Pl
set_option linter.all false
set_option maxRecDepth 100000
set_option maxHeartbeats 8000000
section
variable {P:Program} {Q:Exit→Act→World→Prop} {n:Nat} {ds:List Deferred} {w0:World} {cs:List Code} {l:Fr} {B:Bx} {Γ:Gm}
theorem qi {id:Nat} {b:Code} (h:HV P (Exit.inBlock id (Ks P Q cs)) n ds w0 [b] l B Γ):HV P Q n ds w0 (.block id b::cs) l B Γ:=fun α γ w hH=>nu (h α γ w hH)
theorem mM {id:Nat} (h:HV P Q n ds w0 cs l B Γ):HV P (Exit.inBlock id (Ks P Q cs)) n ds w0 [] l B Γ:=fun α γ w hH=>oh (h α γ w hH)
theorem TS {id:Nat} {cs':List Code} {N:Act→World→Prop} (h:HV P Q n ds w0 cs l B Γ):HV P (Exit.then N (Ks P (Exit.inBlock id (Ks P Q cs)) [])) n ds w0 (.exit id::cs') l B Γ:=fun α γ w hH=>Br (h α γ w hH)
def rep:Fr→Nat→SV→Fr
 | [],_,_=>[]
 | (e,x)::l,d,s=>match Nat.beq e d with
  | true=>(e,s)::l
  | false=>(e,x)::rep l d s
theorem wP {α:Env} {γ:j6} {d:Nat} {s s':SV}:∀ {l:Fr},lk l d=some s→den α γ s'=den α γ s→eG α γ (rep l d s')=eG α γ l
 | [],h,_=>by cases h
 | (e,x)::l,h,he=>by
  cases hb:Nat.beq e d with
  | true =>
   simp only [lk,hb] at h
   obtain rfl:=Option.some.inj h
   simp only [rep,hb,eG,he]
  | false =>
   simp only [lk,hb] at h
   simp only [rep,hb,eG,wP h he]
theorem xg {L:List Oper} {r:zW} (d:Nat) (s':SV) {s:SV} (hl:lk l d=some s) (hv:∀ α γ w,Holds w0 B Γ α γ w→den α γ s'=den α γ s) (h:HA P Q n ds w0 cs L r (rep l d s') B Γ):HA P Q n ds w0 cs L r l B Γ:=fun α γ w hH=>by
 have:=h α γ w hH
 rwa [wP hl (hv α γ w hH)] at this
end
end Go.Proofs.YtdpmbgomcjnohaaGreatDoor.Rf
namespace Go.Proofs.YtdpmbgomcjnohaaGreatDoor.Rf
open Go Go.RowKit Go.Proofs.YtdpmbgomcjnohaaGreatDoor.Pl
set_option linter.all false
set_option maxRecDepth 100000
set_option maxHeartbeats 8000000
def VC (n:Nat):RS:=⟨fun w f=>Un w (f 0) n,fun h hs hk=>ni h hs hk⟩
section
variable {P:Program} {f:FuncId} {args:Array Value} {w:World} {α:Env} {γ:j6}
theorem GY {m:Nat} (g:Nat) (h:Calls P f args w (fun e w'=>∃ u,e = .returned u∧Un w' u m∧Ex w w')) :
  Calls P f args w (fun e w'=>∃ F,(∀ k,bE (F k)=true)∧e = .returned (den α (upd γ g F) (.c g 0))∧(VC m).R w' F∧Ex w w'):=Calls.mono h fun e w' ⟨u,he,hU,hE⟩=>by
 obtain ⟨A,c,hu⟩:=Un.WI hU
 subst hu he
 refine ⟨tZ [.slice A (limbs m).length c],dI rfl,?_,hU,hE⟩
 simp only [den,bU,upd_same];rfl
end
section
variable {P:Program} {Q:Exit→Act→World→Prop} {n:Nat} {ds:List Deferred} {w0:World} {cs:List Code} {l:Fr} {B:Bx} {Γ:Gm} {L:List Oper}
theorem mX {r:zW} {i m d:Nat} {o:Oper} {x y:Operand} {t e:TypeId} {k b q j s:Nat} {z:Int} {kd:IntKind} (hu:P.underlying t=some (.array k e)) (hs:(P.info? e).map (·.size)=some s) (hz:z=(j:Int)) (hj:j<k) (ho:nth L i=some o) (hop:o.op = .indexAddr t x y) (hd:o.dst=some d) (hg:mW L l o.guard=some true)
  (hx:ev l x=some (.p b q)) (hy:ev l y=some (.v (.int kd z))) {q':Nat} (hq:q+j*s=q') (h:HA P Q n ds w0 cs L r ((d,.p b q')::l) B Γ):HA P Q n ds w0 cs L ((false,i,m)::r) l B Γ:=fun α γ w hH=>by
 subst hq
 have h1:=h α γ w hH
 refine Pm hu hs hz hj trivial ho hop hd (gH hg α γ) (show dA (eG α γ l) x=some (Value.pointer (some ⟨α b,q,none⟩)) from bS hx) (bS hy) ?_
 rw [Addr.add_mid]
 exact h1
end
end Go.Proofs.YtdpmbgomcjnohaaGreatDoor.Rf
namespace Go.Proofs.YtdpmbgomcjnohaaGreatDoor.Rf
open Go Go.RowKit Go.Proofs.YtdpmbgomcjnohaaGreatDoor.Pl
set_option linter.all false
set_option maxRecDepth 100000
set_option maxHeartbeats 8000000
section
variable {P:Program} {Q:Exit→Act→World→Prop} {n:Nat} {ds:List Deferred} {cs:List Code} {l:List (Nat × Value)} {w:World}
theorem Ho {c:Code} (k:Nat) (h:Ea P Q n ds cs c k l w):Pl.V P Q n ds (.loop c::cs) l w:=by
 refine ym (fun k l w=>Ea P Q n ds cs c k l w) k h fun k l w hU=>?_
 cases k with
 | zero =>
  intro a ha
  refine Code.wp_mono (fun e a w hq=>?_) (hU a ha)
  cases e with
  | normal=>exact hq.elim
  | _=>exact hq
 | succ k =>
  intro a ha
  refine Code.wp_mono (fun e a w hq=>?_) (hU a ha)
  cases e with
  | normal=>obtain ⟨l',ha',h'⟩:=hq;exact ⟨k,l',Nat.lt_succ_self k,ha',h'⟩
  | _=>exact hq
theorem Pz {c:Code} {k:Nat} (h:Pl.V P (Exit.then (fun a' w'=>∃ l',Ag n ds a' l'∧Ea P Q n ds cs c k l' w') (Ks P Q cs)) n ds [c] l w):Ea P Q n ds cs c (k+1) l w:=h
theorem Hq {c:Code} (h:Pl.V P (Exit.then (fun _ _=>False) (Ks P Q cs)) n ds [c] l w):Ea P Q n ds cs c 0 l w:=h
theorem PD {c:Code} {k:Nat} {Q':Exit→Act→World→Prop} (h:Ea P Q n ds cs c k l w):Pl.V P (Exit.then (fun a' w'=>∃ l',Ag n ds a' l'∧Ea P Q n ds cs c k l' w') Q') n ds [] l w:=fun a ha=>⟨l,ha,h⟩
end
section
variable {P:Program} {Q:Exit→Act→World→Prop} {n:Nat} {ds:List Deferred} {w0:World} {cs:List Code} {l:Fr} {B:Bx} {Γ:Gm} {L:List Oper}
theorem BQ {r:zW} {i m d:Nat} {o:Oper} {x:Operand} {t e:TypeId} {g k:Nat} {S:RS} (N:Nat) (hu:P.underlying t=some (.slice e)) (ho:nth L i=some o) (hop:o.op = .call { callee:=.builtin .len,args:=#[x],argTypes:=#[t] }) (hd:o.dst=some d) (hg:mW L l o.guard=some true) (hx:ev l x=some (.c g k)) (hG:mH Γ g=some S.S)
  (hv:∀ w f,S.R w f→∃ A c,f k = .slice A N c) (h:HA P Q n ds w0 cs L r ((d,.v (.int .i64 ((N:Nat):Int)))::l) B Γ):HA P Q n ds w0 cs L ((false,i,m)::r) l B Γ:=fun α γ w hH=>by
 obtain ⟨A,c,e⟩:=hv w _ (hH.r g hG)
 exact su (A:=A) (c:=c) hu trivial ho hop hd (gH hg α γ) (by rw [bS hx];exact congrArg some e) (h α γ w hH)
theorem Zk {r:zW} {i m d:Nat} {o:Oper} {x:Operand} {s t:TypeId} {kd kd':IntKind} {a:Int} (c:Int) (hu:P.underlying t=some (.int kd')) (hs:(P.underlying s).isSome=true) (h1:kd'.wrap a=c) (ho:nth L i=some o) (hop:o.op = .convert s t x) (hd:o.dst=some d) (hg:mW L l o.guard=some true) (hx:ev l x=some (.v (.int kd a)))
 (h:HA P Q n ds w0 cs L r ((d,.v (.int kd' c))::l) B Γ):HA P Q n ds w0 cs L ((false,i,m)::r) l B Γ:=fun α γ w hH=>Ec hu hs h1 trivial ho hop hd (gH hg α γ) (bS hx) (h α γ w hH)
theorem oK {r:zW} {i m d:Nat} {o:Oper} {x:Operand} {u:UnOp} {t:TypeId} {a:Value} (v:Value) (ho:nth L i=some o) (hop:o.op = .unOp u t x) (hd:o.dst=some d) (hg:mW L l o.guard=some true) (hx:ev l x=some (.v a)) (hr:∀ X,(Op.unary u a).run P X = .ok v X)
  (h:HA P Q n ds w0 cs L r ((d,.v v)::l) B Γ):HA P Q n ds w0 cs L ((false,i,m)::r) l B Γ:=JI (.v v) ho hd hg (fun α γ w _ ρ hρ=>by
 unfold execOp
 rw [hop]
 refine dK _ w ?_
 rw [hρ.dA (bS hx)]
 exact hr w) h
theorem Nv {c:Code} (k:Nat) (h:HU P Q n ds w0 cs c k l B Γ):HV P Q n ds w0 (.loop c::cs) l B Γ:=fun α γ w hH=>Ho k (h α γ w hH)
theorem Hu {c:Code} {k:Nat} (h:HV P (Exit.then (fun a' w'=>∃ l',Ag n ds a' l'∧Ea P Q n ds cs c k l' w') (Ks P Q cs)) n ds w0 [c] l B Γ):HU P Q n ds w0 cs c (k+1) l B Γ:=fun α γ w hH=>Pz (h α γ w hH)
theorem TT {c:Code} (h:HV P (Exit.then (fun _ _=>False) (Ks P Q cs)) n ds w0 [c] l B Γ):HU P Q n ds w0 cs c 0 l B Γ:=fun α γ w hH=>Hq (h α γ w hH)
theorem xh {c:Code} {k:Nat} {Q':Exit→Act→World→Prop} (h:HU P Q n ds w0 cs c k l B Γ):HV P (Exit.then (fun a' w'=>∃ l',Ag n ds a' l'∧Ea P Q n ds cs c k l' w') Q') n ds w0 [] l B Γ:=fun α γ w hH=>PD (h α γ w hH)
def WU (l:Fr):Fr→Prop
 | []=>True
 | (t,s)::l'=>lk l t=some s∧WU l l'
def WV (B:Bx):Bx→Prop
 | []=>True
 | (b,u,c)::B'=>jO B b=some (u,c)∧WV B B'
def WW (Γ:Gm):Gm→Prop
 | []=>True
 | (g,S)::Γ'=>mH Γ g=some S∧WW Γ Γ'
theorem Mf {l:Fr}:∀ {l':Fr},WU l l'→xk l' l
 | [],_,_,_,h=>by cases h
 | (t,s)::l',hs,q,u,h=>by
  unfold lk at h
  cases hb:Nat.beq t q with
  | true =>
   rw [hb] at h
   obtain rfl:=Nat.eq_of_beq_eq_true hb
   obtain rfl:=Option.some.inj h
   exact hs.1
  | false=>rw [hb] at h;exact Mf hs.2 q u h
theorem Mg {B:Bx}:∀ {B':Bx},WV B B'→∀ b x,jO B' b=some x→jO B b=some x
 | [],_,_,_,h=>by cases h
 | (t,s,c)::l',hs,q,u,h=>by
  unfold jO at h
  cases hb:Nat.beq t q with
  | true =>
   rw [hb] at h
   obtain rfl:=Nat.eq_of_beq_eq_true hb
   obtain rfl:=Option.some.inj h
   exact hs.1
  | false=>rw [hb] at h;exact Mg hs.2 q u h
theorem Mh {Γ:Gm}:∀ {Γ':Gm},WW Γ Γ'→∀ g S,mH Γ' g=some S→mH Γ g=some S
 | [],_,_,_,h=>by cases h
 | (t,s)::l',hs,q,u,h=>by
  unfold mH at h
  cases hb:Nat.beq t q with
  | true =>
   rw [hb] at h
   obtain rfl:=Nat.eq_of_beq_eq_true hb
   obtain rfl:=Option.some.inj h
   exact hs.1
  | false=>rw [hb] at h;exact Mh hs.2 q u h
theorem lC {l':Fr} {B':Bx} {Γ':Gm} (hc:HV P Q n ds w0 cs l' B' Γ') (h1:WU l l') (h2:WV B B') (h3:WW Γ Γ'):HV P Q n ds w0 cs l B Γ:=fun α γ w hH =>
 JR ((Mf h1).look α γ) (hc α γ w (hH.sub (Mg h2) (Mh h3)))
theorem vD {c:Code} (l':Fr) (B':Bx) (Γ':Gm) (h1:HV P Q n ds w0 cs l' B' Γ') (h2:HV P Q n ds w0 cs l' B' Γ'→HV P Q n ds w0 (c::cs) l B Γ):HV P Q n ds w0 (c::cs) l B Γ:=h2 h1
theorem l8 {S:RS} (g:Nat) (S':RS) (hG:mH Γ g=some S.S) (hv:∀ w f,S.R w f→S'.R w f) (h:HV P Q n ds w0 cs l B ((g,S'.S)::Γ)):HV P Q n ds w0 cs l B Γ:=fun α γ w hH=>by
 refine h α γ w ⟨hH.ex,hH.box,hH.inj,hH.sc,fun q S2 hq=>?_⟩
 unfold mH at hq
 cases hb:Nat.beq g q with
 | true =>
  rw [hb] at hq
  obtain rfl:=Nat.eq_of_beq_eq_true hb
  obtain rfl:=Option.some.inj hq
  exact ⟨hv w _ (hH.r g hG),hH.SX⟩
 | false=>rw [hb] at hq;exact hH.fact q S2 hq
theorem sO {r:zW} {x:Rat} {L0:Nat} {lo hi:Int} (g:Nat) (hG:mH Γ g=some (oq x L0 lo hi).S) (h:∀ m e,Dd m e x L0 lo hi→HA P Q n ds w0 cs L r l B ((g,(iK m e).S)::Γ)):HA P Q n ds w0 cs L r l B Γ:=fun α γ w hH=>by
 obtain ⟨m,e,A,c,e1,u,d⟩:=hH.r g hG
 have e2:=Array.mk.inj (Value.agg.inj e1)
 simp only [List.cons.injEq,and_true] at e2
 refine h m e d α γ w ⟨hH.ex,hH.box,hH.inj,hH.sc,fun q S2 hq=>?_⟩
 unfold mH at hq
 cases hb:Nat.beq g q with
 | true =>
  rw [hb] at hq
  obtain rfl:=Nat.eq_of_beq_eq_true hb
  obtain rfl:=Option.some.inj hq
  exact ⟨⟨e2.1,e2.2.2,⟨A,c,e2.2.1⟩,by rw [e2.2.1];exact u⟩,hH.SX⟩
 | false=>rw [hb] at hq;exact hH.fact q S2 hq
end
section
variable {P:Program} {T:TypeId} {x y:Operand} {w:World} {f:Nat→Value} {p:Int→Prop}
theorem PE (h:(IR p).R w f) {b:Int} (hp:∀ z,p z→z<b):Bn P .lss T x y (f 0) (.int .i64 b) w = .ok (.bool true) w:=by
 obtain ⟨z,e,hz⟩:=h;rw [e];exact kZ (hp z hz) w
theorem E8 (h:(IR p).R w f) {b:Int} (hp:∀ z,p z→z≤b):Bn P .leq T x y (f 0) (.int .i64 b) w = .ok (.bool true) w:=by
 obtain ⟨z,e,hz⟩:=h;rw [e];exact xe (hp z hz) w
theorem PG (h:(IR p).R w f) {b:Int} (hp:∀ z,p z→z>b):Bn P .gtr T x y (f 0) (.int .i64 b) w = .ok (.bool true) w:=by
 obtain ⟨z,e,hz⟩:=h;rw [e];exact sF (hp z hz) w
theorem PI (h:(IR p).R w f) {b:Int} (hp:∀ z,p z→z≥b):Bn P .geq T x y (f 0) (.int .i64 b) w = .ok (.bool true) w:=by
 obtain ⟨z,e,hz⟩:=h;rw [e];exact iP (hp z hz) w
theorem BS (a b:Int) (X:World):Bn P .gtr T x y (.int .i64 a) (.int .i64 b) X = .ok (.bool (decide (a>b))) X:=by
 by_cases h:a>b
 · rw [decide_eq_true h];exact sF h X
 · rw [decide_eq_false h];exact BU h X
end
end Go.Proofs.YtdpmbgomcjnohaaGreatDoor.Rf
namespace Go.Proofs.YtdpmbgomcjnohaaGreatDoor.Rf
open Go Go.RowKit Go.Proofs.YtdpmbgomcjnohaaGreatDoor.Pl
set_option linter.all false
set_option maxRecDepth 100000
set_option maxHeartbeats 8000000
def BR (p:Bool→Prop):RS:=⟨fun _ f=>∃ b,f 0 = .bool b∧p b,fun h _ _=>h⟩
mutual
def renG (g g':Nat):SV→SV
 | .v x=>.v x
 | .p b o=>.p b o
 | .c h k=>match Nat.beq h g with
  | true=>.c g' k
  | false=>.c h k
 | .a l=>.a (BV g g' l)
 | .t l=>.t (BV g g' l)
 | .f fn fs cap=>.f fn (BV g g' fs) (BV g g' cap)
def BV (g g':Nat):List SV→List SV
 | []=>[]
 | x::l=>renG g g' x::BV g g' l
end
mutual
theorem PK {α:Env} {γ:j6} {g g':Nat} (e:γ g'=γ g):∀ (s:SV),den α γ (renG g g' s)=den α γ s
 | .v x=>rfl
 | .p b o=>rfl
 | .c h k=>by
  unfold renG
  cases hb:Nat.beq h g with
  | true =>
   obtain rfl:=Nat.eq_of_beq_eq_true hb
   show γ g' k=γ h k
   rw [e]
  | false=>rfl
 | .a l=>by show Value.agg _=Value.agg _;rw [nJ e l]
 | .t l=>by show Value.tuple _=Value.tuple _;rw [nJ e l]
 | .f fn fs cap=>by show Value.func _ _ _=Value.func _ _ _;rw [nJ e fs,nJ e cap]
theorem nJ {α:Env} {γ:j6} {g g':Nat} (e:γ g'=γ g):∀ (l:List SV),bU α γ (BV g g' l)=bU α γ l
 | []=>rfl
 | x::l=>by show _::_=_::_;rw [PK e x,nJ e l]
end
section
variable {P:Program} {Q:Exit→Act→World→Prop} {n:Nat} {ds:List Deferred} {w0:World} {cs:List Code} {l:Fr} {B:Bx} {Γ:Gm} {L:List Oper}
def ER {X:Type} (S:X→RS) (p:X→Prop):RS:=⟨fun w f=>∃ x,p x∧(S x).R w f,fun ⟨x,h1,h2⟩ hs hk=>⟨x,h1,(S x).keep h2 hs hk⟩⟩
theorem Zl {X:Type} {S:X→RS} {p:X→Prop} (g:Nat) (hG:mH Γ g=some (ER S p).S) (h:∀ x,p x→HV P Q n ds w0 cs l B ((g,(S x).S)::Γ)):HV P Q n ds w0 cs l B Γ:=fun α γ w hH=>by
 obtain ⟨x,h1,h2⟩:=hH.r g hG
 refine h x h1 α γ w ⟨hH.ex,hH.box,hH.inj,hH.sc,fun q S2 hq=>?_⟩
 unfold mH at hq
 cases hb:Nat.beq g q with
 | true =>
  rw [hb] at hq
  obtain rfl:=Nat.eq_of_beq_eq_true hb
  obtain rfl:=Option.some.inj hq
  exact ⟨h2,hH.SX⟩
 | false=>rw [hb] at hq;exact hH.fact q S2 hq
theorem yG {S:RS} {t:TypeId} {c c':List SV} (b g g':Nat) (S':RS) (hB:jO B b=some (t,c)) (hG:mH Γ g=some S.S) (hf:fresh g' l B Γ=true) (hv:∀ w f,S.R w f→S'.R w f) (hc:BV g g' c=c') (h:HV P Q n ds w0 cs l ((b,t,c')::xm B b) ((g',S'.S)::Γ)):HV P Q n ds w0 cs l B Γ:=fun α γ w hH=>by
 obtain ⟨h1,h2,h3⟩:=kg hf
 have hH1:=hH.add g' S'.S (γ g) h2 (hH.sc g) ⟨hv w _ (hH.r g hG),hH.SX⟩ h3
 have hne:g'≠g:=fun e=>by rw [e,hG] at h3;cases h3
 have e1:upd γ g' (γ g) g'=upd γ g' (γ g) g:=by rw [upd_same,upd_ne _ _ (fun e=>hne e.symm)]
 have hd:bU α (upd γ g' (γ g)) c'=bU α (upd γ g' (γ g)) c:=by rw [← hc,nJ e1]
 have hH2:Holds w0 ((b,t,c')::xm B b) ((g',S'.S)::Γ) α (upd γ g' (γ g)) w:=by
  have hlk:∀ q T1 c1,jO ((b,t,c')::xm B b) q=some (T1,c1)→∃ c2,jO B q=some (T1,c2)∧bU α (upd γ g' (γ g)) c1=bU α (upd γ g' (γ g)) c2:=by
   intro q T1 c1 hq
   rw [Mi] at hq
   unfold jO at hq
   cases hb:Nat.beq b q with
   | true =>
    rw [hb] at hq
    obtain rfl:=Nat.eq_of_beq_eq_true hb
    cases hq
    exact ⟨c,hB,hd⟩
   | false=>rw [hb] at hq;exact ⟨c1,hq,rfl⟩
  have hhas:∀ q,hasB ((b,t,c')::xm B b) q→hasB B q:=fun q ⟨⟨T1,c1⟩,hq⟩=>by
   obtain ⟨c2,h,_⟩:=hlk q T1 c1 hq
   exact ⟨_,h⟩
  refine ⟨hH1.ex,fun q T1 c1 hq=>?_,fun q q' a1 a2=>hH1.inj q q' (hhas q a1) (hhas q' a2),hH1.sc,fun q S2 hq=>?_⟩
  · obtain ⟨c2,h4,h5⟩:=hlk q T1 c1 hq
    rw [h5]
    exact hH1.box q T1 c2 h4
  · exact S2.grow (hH1.fact q S2 hq) (fun k ⟨x,a1,a2⟩=>.inl ⟨x,hhas x a1,a2⟩) fun k ⟨x,a1,a2⟩=>hH1.SX k ⟨x,hhas x a1,a2⟩
 have:=h α _ w hH2
 rwa [kQ l h1] at this
theorem L8 {r:zW} {i m d:Nat} {o:Oper} {op:BinOp} {tx ty:TypeId} {x y:Operand} {sx sy:SV} (g:Nat) (p:Bool→Prop) (ho:nth L i=some o) (hop:o.op = .binOp op tx x y ty) (hd:o.dst=some d) (hg:mW L l o.guard=some true) (hx:ev l x=some sx) (hy:ev l y=some sy) (hfr:fresh g l B Γ=true)
  (hr:∀ α γ w,Holds w0 B Γ α γ w→∃ b,Bn P op tx x y (den α γ sx) (den α γ sy) w = .ok (.bool b) w∧p b) (h:HA P Q n ds w0 cs L r ((d,.c g 0)::l) B ((g,(BR p).S)::Γ)):HA P Q n ds w0 cs L ((false,i,m)::r) l B Γ:=fun α γ w hH=>by
 obtain ⟨h1,h2,h3⟩:=kg hfr
 obtain ⟨b,hb,hp⟩:=hr α γ w hH
 have hA:=h α (upd γ g (tZ [.bool b])) w (hH.add g (BR p).S _ h2 (dI rfl) ⟨⟨b,rfl,hp⟩,hH.SX⟩ h3)
 rw [pX,kQ l h1] at hA
 refine lM ho hd (gH hg α γ) (fun ρ hρ=>?_) trivial hA
 obtain ⟨dst,op',ty',pos,VD,gu⟩:=o
 cases hop
 refine dK _ w ?_
 rw [hρ.dA (bS hx),hρ.dA (bS hy)]
 show Bn P op tx x y (den α γ sx) (den α γ sy) w = .ok (upd γ g (tZ [.bool b]) g 0) w
 rw [upd_same];exact hb
theorem Hw {c:Operand} {x y:Code} {p:Bool→Prop} {g:Nat} (hc:ev l c=some (.c g 0)) (hG:mH Γ g=some (BR p).S) (h1:p true→HV P Q n ds w0 (x::cs) l B Γ) (h2:p false→HV P Q n ds w0 (y::cs) l B Γ):HV P Q n ds w0 (.cond c x y::cs) l B Γ:=fun α γ w hH=>by
 obtain ⟨b,e,hp⟩:=hH.r g hG
 have hv:dA (eG α γ l) c=some (.bool b):=by rw [bS hc];exact congrArg some e
 cases b with
 | true=>exact fP hv (h1 hp α γ w hH)
 | false=>exact dH hv (h2 hp α γ w hH)
end
theorem yc {w:World} {f:Nat→Value} {z:Int} (h:(rA z).R w f):Un w (f 1) z.natAbs:=by
 obtain ⟨A,c,e,u⟩:=h
 have e2:=Array.mk.inj (Value.agg.inj e)
 simp only [List.cons.injEq,and_true] at e2
 rw [e2.2];exact u
theorem WX {w:World} {f:Nat→Value} {e lo hi:Int} (h:(rA 1).R w f) (h1:lo≤e) (h2:e≤hi):Dn w (.agg #[f 0,f 1,.int .i64 e]) (Dy.dv 1 e) 1 lo hi:=by
 obtain ⟨A,c,e1,u⟩:=h
 have e2:=Array.mk.inj (Value.agg.inj e1)
 simp only [List.cons.injEq,and_true] at e2
 exact ⟨1,e,A,c,by rw [e2.1,e2.2],u,⟨.inr (by decide),rfl,Sz.lit (by decide) (by decide),h1,h2⟩⟩
theorem sgB {q:Rat} {w:World} {f:Nat→Value} {P:Program} {T:TypeId} {x y:Operand} (h:(IR (EP q)).R w f):∃ b,Pl.Bn P .lss T x y (f 0) (.int .i64 0) w = .ok (.bool b) w∧(b=true↔q<0):=by
 obtain ⟨k,e,hk⟩:=h
 refine ⟨decide (k<0),by rw [e];exact yf k 0 w,?_⟩
 rw [decide_eq_true_eq];exact hk.2.2.1
end Go.Proofs.YtdpmbgomcjnohaaGreatDoor.Rf
namespace Go.Proofs.YtdpmbgomcjnohaaGreatDoor.Rf
open Go Go.RowKit Go.Proofs.YtdpmbgomcjnohaaGreatDoor.Pl
set_option linter.all false
set_option maxRecDepth 100000
set_option maxHeartbeats 8000000
section
variable {P:Program} {Q:Exit→Act→World→Prop} {n:Nat} {ds:List Deferred} {w0:World} {cs:List Code} {l:Fr} {B:Bx} {Γ:Gm} {L:List Oper}
theorem GZ {ord:Option (List Nat)} {l0:Fr} {B0:Bx} {Γ0:Gm} {tr:Tr} {d:Nat} {o:Oper} {rd:List Nat} {lr:Fr} {Γr:Gm} (SY gs:List Nat) (g:Nat) (S:RS) (res:SV)
  (ho:nth L (oi ord tr.length)=some o) (hd:o.dst=some d) (hrd:EQ L o.guard++SY=rd) (hlr:kr (wh l0 tr) rd=lr) (hg:mW L lr o.guard=some true) (hΓ:qK (Gq Γ0 tr) gs=Γr)
  (Bl:∀ α γ w,Holds w0 [] Γr α γ w→∃ F w',(∀ k,bE (F k)=true)∧(∀ ρ,Cons ρ (eG α γ lr)→(execOp ρ o).run P w = .ok (.value (den α (upd γ g F) res)) w')∧S.R w' F∧Ex w w')
  (h:DA P Q n ds w0 cs L ord l0 B0 Γ0 (⟨some d,res,rd,[],gs,none,none,some (g,S.S)⟩::tr)):DA P Q n ds w0 cs L ord l0 B0 Γ0 tr:=fun ha=>h (by
 subst hΓ hlr
 exact ⟨.eff o d g S res rd gs ho hd hg Bl,ha⟩)
theorem Pn {ord:Option (List Nat)} {l0:Fr} {B0:Bx} {Γ0:Gm} {tr:Tr} {d:Nat} {o:Oper} {rd:List Nat} {lr:Fr} {e:TypeId} {m:Nat} (vs:List Value) (g:Nat) (S:RS)
  (ho:nth L (oi ord tr.length)=some o) (hd:o.dst=some d) (hrd:EQ L o.guard=rd) (hlr:kr (wh l0 tr) rd=lr) (hg:mW L lr o.guard=some true) (hk:∀ α γ,known (eG α γ lr) o.op=true)
  (he:∀ α γ X,(execOp (L9 (eG α γ lr)) o).run P X = .ok (.value (.slice (some ⟨X.heap.size,0,none⟩) m m)) (X.alloc (.cells vs.toArray e)))
  (hR:∀ N w,Cb w N e vs→S.R w (tZ [.slice (some ⟨N,0,none⟩) m m]))
  (h:DA P Q n ds w0 cs L ord l0 B0 Γ0 (⟨some d,.c g 0,rd,[],[],none,none,some (g,S.S)⟩::tr)):DA P Q n ds w0 cs L ord l0 B0 Γ0 tr :=
 GZ [] [] g S (.c g 0) ho hd (by rw [List.append_nil];exact hrd) hlr hg rfl (fun α γ w _=>⟨tZ [.slice (some ⟨w.heap.size,0,none⟩) m m],w.alloc (.cells vs.toArray e),dI rfl,fun ρ hρ=>by
  rw [ku hρ (hk α γ),he α γ w,show den α (upd γ g (tZ [.slice (some ⟨w.heap.size,0,none⟩) m m])) (.c g 0)=upd γ g (tZ [.slice (some ⟨w.heap.size,0,none⟩) m m]) g 0 from rfl,upd_same]
  rfl,hR _ _ (Cb.new w e vs),Ex.alloc w _⟩) h
end
theorem D6 {P:Program} {f:FuncId} {args:Array Value} {w:World} {α:Env} {γ:j6} {z z':Int} (g:Nat) (h:Calls P f args w fun e w'=>(∃ u v,e = .returned (.tuple #[u,v,.int .i64 0])∧Zn w' u z∧Zn w' v z')∧Ex w w') :
  Calls P f args w (fun e w'=>∃ F,(∀ k,bE (F k)=true)∧e = .returned (den α (upd γ g F) (.t [.a [.c g 0,.c g 1],.a [.c g 2,.c g 3],.v (.int .i64 0)]))∧(rA z).R w' F∧Ex w w'):=Calls.mono h fun e w' ⟨⟨u,v,he,⟨A,c,hu,hU⟩,⟨A2,c2,hv,hV⟩⟩,hE⟩=>by
 subst hu hv he
 refine ⟨tZ [.bool (decide (z<0)),.slice A (limbs z.natAbs).length c,.bool (decide (z'<0)),.slice A2 (limbs z'.natAbs).length c2],dI rfl,?_,⟨A,c,rfl,hU⟩,hE⟩
 simp only [den,bU,upd_same];rfl
theorem Po {w:World} {f:Nat→Value} {z:Int} (h:(rA z).R w f):f 0 = .bool (decide (z<0)):=by
 obtain ⟨A,c,e1,u⟩:=h
 have e2:=Array.mk.inj (Value.agg.inj e1)
 simp only [List.cons.injEq,and_true] at e2
 exact e2.1
end Go.Proofs.YtdpmbgomcjnohaaGreatDoor.Rf
namespace Go.Proofs.YtdpmbgomcjnohaaGreatDoor
open Go.RowKit 
set_option linter.all false
set_option maxRecDepth 100000
set_option maxHeartbeats 8000000
theorem gJ (w:World) (vn vd:Value) (n d:Int) (q:Rat) (hn:Zn w vn n) (hd:Zn w vd d) (L M:Nat) (ln:Sz n L) (ld:Sz d M) (hL:L≤100) (hM:M≤100) (hd0:d≠0) (hq:Rat.divInt n d=q) :
  Calls Tryz.prog 83 #[vn,vd] w fun e w'=>∃ u,e = .returned u∧Qn w' u q L M∧Pl.Ex w w':=by
 obtain ⟨An,cn,rfl,un⟩:=hn
 obtain ⟨Ad,cd,rfl,ud⟩:=hd
 refine Pl.aN (n:=14) (vs:=[.agg #[.bool (decide (n<0)),.slice An (limbs (Int.natAbs n)).length cn],.agg #[.bool (decide (d<0)),.slice Ad (limbs (Int.natAbs d)).length cd]]) Tryz.func83 rfl (by kernel_rfl) (by simp) ?_
 repeat refine Pl.af ?_
 refine Pl.ah (by kernel_rfl) ?_
 refine Pl.bF (cs:=[.bool (decide (n<0)),.slice An (limbs (Int.natAbs n)).length cn]) rfl rfl rfl rfl rfl rfl (fun Y hY=>trivial) ?_
 intro N1 w1 hE1 bT ak
 have dP:=Pl.Cb.lt ak
 have jC:=Pl.Ex.size hE1
 refine Pl.bF (cs:=[.bool (decide (d<0)),.slice Ad (limbs (Int.natAbs d)).length cd]) rfl rfl rfl rfl rfl rfl (fun Y hY=>trivial) ?_
 intro N2 w2 hE2 dU aA
 have iq:=Pl.Cb.lt aA
 have jM:=Pl.Ex.size hE2
 refine Pl.bK (z:=.agg #[.bool false,.slice none 0 0,.slice none 0 0]) (by kernel_rfl) rfl rfl rfl rfl (fun Y hY=>trivial) ?_
 intro N3 w3 aJ pY aY
 have yg:=Pl.Cb.lt aY
 have jX:=Pl.Ex.size aJ
 replace aY:Pl.Cb w3 N3 41 [.bool false,.slice none 0 0,.slice none 0 0]:=aY
 refine Pl.aj ?_
 repeat refine Pl.af ?_
 refine Pl.ah (by kernel_rfl) ?_
 refine Pl.bg (part:=[.bool (decide (n<0)),.slice An (limbs (Int.natAbs n)).length cn]) (Pl.Cb.ex ak (Pl.Ex.trans hE2 aJ)) rfl Tryz.underlying24 rfl (by kernel_rfl) trivial rfl rfl rfl rfl rfl ?_
 refine Pl.bg (part:=[.bool (decide (d<0)),.slice Ad (limbs (Int.natAbs d)).length cd]) (Pl.Cb.ex aA aJ) rfl Tryz.underlying24 rfl (by kernel_rfl) trivial rfl rfl rfl rfl rfl ?_
 refine Pl.ay rfl rfl rfl rfl rfl (fun u X=>Pl.enters Tryz.func97 (by kernel_rfl) rfl u X) ?_
 refine Calls.mono (jf _ _ _ n d (Zn.of (Un.below un (Pl.Ex.trans hE1 (Pl.Ex.trans hE2 aJ)))) (Zn.of (Un.below ud (Pl.Ex.trans hE1 (Pl.Ex.trans hE2 aJ)))) L M ln ld hL hM hd0) ?_
 rintro e w4 ⟨vq,rfl,rz,aP⟩
 rw [hq] at rz
 obtain ⟨A1,c1,A2,c2,rfl,u1,u2,z1,z2⟩:=rz
 have kY:=Pl.Ex.size aP
 refine ⟨_,rfl,trivial,?_⟩
 refine Pl.aG trivial rfl ?_
 refine Pl.bK (z:=.agg #[.bool false,.slice none 0 0,.slice none 0 0]) (by kernel_rfl) rfl rfl rfl rfl (fun Y hY=>trivial) ?_
 intro N4 w5 aW wQ bV
 have ES:=Pl.Cb.lt bV
 have mI:=Pl.Ex.size aW
 replace bV:Pl.Cb w5 N4 41 [.bool false,.slice none 0 0,.slice none 0 0]:=bV
 refine Pl.bz (new:=[.bool (decide ((Rat.num q)<0)),.slice A1 (limbs (Int.natAbs (Rat.num q))).length c1,.slice A2 (limbs (Rat.den q)).length c2]) bV (by kernel_rfl) rfl (by simp [Value.oneCell']) rfl rfl rfl rfl rfl rfl (fun Y hY=>trivial) ?_
 intro w6 jY fO
 have bO:=Pl.Ex.xs aW jY (by omega)
 have rC:=Pl.Xs.size jY
 refine Pl.aG trivial rfl ?_
 refine Pl.aj ?_
 repeat refine Pl.af ?_
 refine Pl.ah (by kernel_rfl) ?_
 refine Pl.bg (part:=[.bool (decide ((Rat.num q)<0)),.slice A1 (limbs (Int.natAbs (Rat.num q))).length c1,.slice A2 (limbs (Rat.den q)).length c2]) fO rfl Tryz.underlying41 rfl (by kernel_rfl) trivial rfl rfl rfl rfl rfl ?_
 refine Pl.bz (new:=[.bool (decide ((Rat.num q)<0)),.slice A1 (limbs (Int.natAbs (Rat.num q))).length c1,.slice A2 (limbs (Rat.den q)).length c2]) (Pl.Cb.ex aY (Pl.Ex.trans aP bO)) (by kernel_rfl) rfl (by simp [Value.oneCell']) rfl rfl rfl rfl rfl rfl (fun Y hY=>trivial) ?_
 intro w7 iM fE
 have cB:=Pl.Ex.xs (Pl.Ex.trans aJ (Pl.Ex.trans aP bO)) iM (by omega)
 have wm:=Pl.Xs.size iM
 have yh:=Pl.Cb.xs fO iM (by simp;omega)
 refine Pl.aj ?_
 have k5:=Un.xs (Un.below u1 bO) iM (Pl.Cb.ex aY (Pl.Ex.trans aP bO)) (by simp)
 have k6:=Un.xs (Un.below u2 bO) iM (Pl.Cb.ex aY (Pl.Ex.trans aP bO)) (by simp)
 repeat refine Pl.af ?_
 exact Pl.aV rfl rfl fE Tryz.underlying41 rfl (by kernel_rfl) (⟨_,rfl,(Qn.mk k5 k6 z1 z2),(Pl.Ex.trans hE1 (Pl.Ex.trans hE2 cB))⟩)
end Go.Proofs.YtdpmbgomcjnohaaGreatDoor
namespace Go.Proofs.YtdpmbgomcjnohaaGreatDoor
open Go.RowKit Rf
set_option linter.all false
set_option maxRecDepth 100000
set_option maxHeartbeats 8000000
theorem Bo {p q:Rat} {k:Int} (h:bZ (p.num*((q.den:Nat):Int)) (q.num*((p.den:Nat):Int))=k):ET p q k:=by
 have h1:=yj h
 have a:=Rq.rV (a:=p) (b:=q)
 have b:=Rq.rV (a:=q) (b:=p)
 have c:=Rq.cmp_eq (a:=p) (b:=q)
 refine ⟨by omega,by omega,by rw [a];omega,by rw [c];omega,by rw [b];omega⟩
theorem JJ {p:Rat} {k:Int} (h:Int.sign p.num=k):EP p k:=by
 have h1:=qL h
 have a:=Rq.sign_neg (a:=p)
 have b:=Rq.sign_zero (a:=p)
 refine ⟨by omega,by omega,by rw [a];omega,by rw [b];omega,?_⟩
 rw [← Rat.not_le,Rat.le_iff_lt_or_eq,a,b]
 omega
theorem gp (w:World) (vn:Value) (n:Int) (L:Nat) (hn:Zn w vn n) (ln:Sz n L) :
  Calls Tryz.prog 82 #[vn] w fun e w'=>∃ u,e = .returned u∧Qn w' u ((n:Int):Rat) L 1∧Pl.Ex w w':=by
 obtain ⟨An,cn,rfl,un⟩:=hn
 refine Pl.aN (n:=6) (vs:=[.agg #[.bool (decide (n<0)),.slice An (limbs (Int.natAbs n)).length cn]]) Tryz.func82 rfl (by kernel_rfl) (by simp) ?_
 repeat refine Pl.af ?_
 refine Pl.ah (by kernel_rfl) ?_
 refine Pl.bF (cs:=[.bool (decide (n<0)),.slice An (limbs (Int.natAbs n)).length cn]) rfl rfl rfl rfl rfl rfl (fun Y hY=>trivial) ?_
 intro N1 w1 hE1 bT ak
 have dP:=Pl.Cb.lt ak
 have jC:=Pl.Ex.size hE1
 refine Pl.bK (z:=.agg #[.bool false,.slice none 0 0,.slice none 0 0]) (by kernel_rfl) rfl rfl rfl rfl (fun Y hY=>trivial) ?_
 intro N2 w2 hE2 dU aA
 have iq:=Pl.Cb.lt aA
 have jM:=Pl.Ex.size hE2
 replace aA:Pl.Cb w2 N2 41 [.bool false,.slice none 0 0,.slice none 0 0]:=aA
 refine Pl.aj ?_
 repeat refine Pl.af ?_
 refine Pl.ah (by kernel_rfl) ?_
 refine Pl.bg (part:=[.bool (decide (n<0)),.slice An (limbs (Int.natAbs n)).length cn]) (Pl.Cb.ex ak hE2) rfl Tryz.underlying24 rfl (by kernel_rfl) trivial rfl rfl rfl rfl rfl ?_
 refine Pl.ze (e := 67) (n:=1) [.int .u32 1] rfl rfl rfl rfl (by kernel_rfl) (fun Y hY=>trivial) ?_
 intro N3 w3 aJ pY aY
 have yg:=Pl.Cb.lt aY
 have jX:=Pl.Ex.size aJ
 refine Pl.aL (.agg #[.bool (decide (n<0)),.slice An (limbs (Int.natAbs n)).length cn,.slice (some ⟨N3,0,none⟩) 1 1]) trivial rfl rfl rfl rfl (fun X=>by kernel_rfl) ?_
 refine Pl.bz (new:=[.bool (decide (n<0)),.slice An (limbs (Int.natAbs n)).length cn,.slice (some ⟨N3,0,none⟩) 1 1]) (Pl.Cb.ex aA aJ) (by kernel_rfl) rfl (by simp [Value.oneCell']) rfl rfl rfl rfl rfl rfl (fun Y hY=>trivial) ?_
 intro w4 wo bf
 have aP:=Pl.Ex.xs (Pl.Ex.trans hE2 aJ) wo (by omega)
 have kY:=Pl.Xs.size wo
 have fE:=Pl.Cb.xs aY wo (by simp;omega)
 refine Pl.aj ?_
 have hl4:=Un.one (x:=1) fE rfl (by omega)
 repeat refine Pl.af ?_
 exact Pl.aV rfl rfl bf Tryz.underlying41 rfl (by kernel_rfl) (⟨_,rfl,Qn.of (q:=((n:Int):Rat)) rfl rfl (Un.below un (Pl.Ex.trans hE1 aP)) hl4 ln (show Sn 1 1 from Sn.of (by decide)),(Pl.Ex.trans hE1 aP)⟩)
theorem fF (w:World) (va vb:Value) (p q:Rat) (L M L2 M2:Nat) (ha:Qn w va p L M) (hb:Qn w vb q L2 M2) (hK:L+M2≤398) (hN:L2+M≤398) :
  Calls Tryz.prog 49 #[va,vb] w fun e w'=>∃ k:Int,e = .returned (.int .i64 k)∧ET p q k∧Pl.Ex w w':=by
 obtain ⟨Aa,ca,Ba,ba,rfl,ua,ta,za,ya⟩:=ha
 obtain ⟨Ab,cb,Bb,bb,rfl,ub,tb,zb,yb⟩:=hb
 refine Rf.bQ (n:=18) [.a [.c 0 0,.c 0 1,.c 0 2],.a [.c 1 0,.c 1 1,.c 1 2]] [[.bool (decide (Rat.num p<0)),.slice Aa (limbs (Rat.num p).natAbs).length ca,.slice Ba (limbs (Rat.den p)).length ba],[.bool (decide (Rat.num q<0)),.slice Ab (limbs (Rat.num q).natAbs).length cb,.slice Bb (limbs (Rat.den q)).length bb]] [(0,(l7 p L M).S),(1,(l7 q L2 M2).S)] Tryz.func49 rfl (by kernel_rfl) rfl rfl ⟨RS.in ⟨Aa,ca,Ba,ba,rfl,ua,ta,za,ya⟩,RS.in ⟨Ab,cb,Bb,bb,rfl,ub,tb,zb,yb⟩,trivial⟩ ?_
 repeat refine Rf.aa ?_
 refine Rf.az (by kernel_rfl) ?_
 refine Rf.aD aK 0 rfl ?_
 refine Rf.aI ?_
 repeat refine Rf.aa ?_
 refine Rf.bM none fo ?_
 refine Rf.aO aK 14 2 rfl ?_
 refine Rf.aB 2 _ _ rfl rfl rfl rfl rfl rfl rfl rfl rfl (fun u X=>Pl.enters Tryz.func84 (by kernel_rfl) rfl u X) (fun α γ w h=>dx 2 (bC _ _ (Rat.den q) (bH (h.r 1 rfl)).2.2.1)) ?_
 refine Rf.aB 3 _ _ rfl rfl rfl rfl rfl rfl rfl rfl rfl (fun u X=>Pl.enters Tryz.func91 (by kernel_rfl) rfl u X) (fun α γ w h=>dx 3 (jA _ _ _ (Rat.num p) (((Rat.den q):Nat):Int) (bH (h.r 0 rfl)).1 (h.r 2 rfl) (Sz.le za (by omega)) (Sz.le (Sn.sz yb) (by omega)) _ rfl)) ?_
 refine Rf.aO aK 14 2 rfl ?_
 refine Rf.aB 4 _ _ rfl rfl rfl rfl rfl rfl rfl rfl rfl (fun u X=>Pl.enters Tryz.func84 (by kernel_rfl) rfl u X) (fun α γ w h=>dx 4 (bC _ _ (Rat.den p) (bH (h.r 0 rfl)).2.2.1)) ?_
 refine Rf.aB 5 _ _ rfl rfl rfl rfl rfl rfl rfl rfl rfl (fun u X=>Pl.enters Tryz.func91 (by kernel_rfl) rfl u X) (fun α γ w h=>dx 5 (jA _ _ _ (Rat.num q) (((Rat.den p):Nat):Int) (bH (h.r 1 rfl)).1 (h.r 4 rfl) (Sz.le zb (by omega)) (Sz.le (Sn.sz ya) (by omega)) _ rfl)) ?_
 refine Rf.aB 6 _ _ rfl rfl rfl rfl rfl rfl rfl rfl rfl (fun u X=>Pl.enters Tryz.func89 (by kernel_rfl) rfl u X) (fun α γ w h=>nZ 6 (Calls.mono (Bi _ _ _ ((Rat.num p)*(((Rat.den q):Nat):Int)) ((Rat.num q)*(((Rat.den p):Nat):Int)) (h.r 3 rfl) (h.r 5 rfl) (Sz.le (Sz.mul za (Sn.sz yb) (by omega):Sz ((Rat.num p)*(((Rat.den q):Nat):Int)) (L+M2)) (by omega)) (Sz.le (Sz.mul zb (Sn.sz ya) (by omega):Sz ((Rat.num q)*(((Rat.den p):Nat):Int)) (L2+M)) (by omega)) _ rfl) fun e w2 ⟨h1,h2⟩=>⟨_,h1,rfl,h2⟩)) ?_
 refine Rf.aO aK 14 2 rfl ?_
 refine Rf.dQ (by kernel_rfl) ?_
 refine Rf.bN [4] [] [6] rfl rfl rfl ?_
 repeat refine Rf.aa ?_
 exact Rf.bI aK (fun _ _ h=>h) rfl rfl (fun α γ w h=>by obtain ⟨k,e9,hk⟩:=h.r 6 rfl;exact ⟨k,congrArg Ending.returned e9,Bo hk,h.ex⟩)
theorem mJ (w:World) (va:Value) (p:Rat) (L M:Nat) (ha:Qn w va p L M) (hL:L≤1000000) :
  Calls Tryz.prog 50 #[va] w fun e w'=>∃ k:Int,e = .returned (.int .i64 k)∧EP p k∧Pl.Ex w w':=by
 obtain ⟨Aa,ca,Ba,ba,rfl,ua,ta,za,ya⟩:=ha
 refine Rf.bQ (n:=6) [.a [.c 0 0,.c 0 1,.c 0 2]] [[.bool (decide (Rat.num p<0)),.slice Aa (limbs (Rat.num p).natAbs).length ca,.slice Ba (limbs (Rat.den p)).length ba]] [(0,(l7 p L M).S)] Tryz.func50 rfl (by kernel_rfl) rfl rfl ⟨RS.in ⟨Aa,ca,Ba,ba,rfl,ua,ta,za,ya⟩,trivial⟩ ?_
 repeat refine Rf.aa ?_
 refine Rf.az (by kernel_rfl) ?_
 refine Rf.aD aK 0 rfl ?_
 refine Rf.aI ?_
 repeat refine Rf.aa ?_
 refine Rf.az (by kernel_rfl) ?_
 refine Rf.aD aK 1 rfl ?_
 refine Rf.fA 1 _ _ rfl rfl rfl rfl rfl rfl (fun u X=>Pl.enters Tryz.func52 (by kernel_rfl) rfl u X) (fun α γ w h=>nZ 1 (Calls.mono (Bh _ _ (Rat.num p) (bH (h.r 0 rfl)).1 ((Sz.le za (by omega))) _ rfl) fun e w2 ⟨h1,h2⟩=>⟨_,h1,rfl,h2⟩)) ?_
 refine Rf.aD aK 1 rfl ?_
 refine Rf.aI ?_
 repeat refine Rf.aa ?_
 exact Rf.bI aK (fun _ _ h=>h) rfl rfl (fun α γ w h=>by obtain ⟨k,e9,hk⟩:=h.r 1 rfl;exact ⟨k,congrArg Ending.returned e9,JJ hk,h.ex⟩)
theorem kv (w:World) (va:Value) (p:Rat) (L M:Nat) (ha:Qn w va p L M) (hL:L≤1000000) :
  Calls Tryz.prog 54 #[va] w fun e w'=>∃ u,e = .returned u∧Qn w' u (-p) L M∧Pl.Ex w w':=by
 obtain ⟨Aa,ca,Ba,ba,rfl,ua,ta,za,ya⟩:=ha
 refine Pl.aN (n:=9) (vs:=[.agg #[.bool (decide ((Rat.num p)<0)),.slice Aa (limbs (Int.natAbs (Rat.num p))).length ca,.slice Ba (limbs (Rat.den p)).length ba]]) Tryz.func54 rfl (by kernel_rfl) (by simp) ?_
 repeat refine Pl.af ?_
 refine Pl.ah (by kernel_rfl) ?_
 refine Pl.bF (cs:=[.bool (decide ((Rat.num p)<0)),.slice Aa (limbs (Int.natAbs (Rat.num p))).length ca,.slice Ba (limbs (Rat.den p)).length ba]) rfl rfl rfl rfl rfl rfl (fun Y hY=>trivial) ?_
 intro N1 w1 hE1 bT ak
 have dP:=Pl.Cb.lt ak
 have jC:=Pl.Ex.size hE1
 refine Pl.bK (z:=.agg #[.bool false,.slice none 0 0,.slice none 0 0]) (by kernel_rfl) rfl rfl rfl rfl (fun Y hY=>trivial) ?_
 intro N2 w2 hE2 dU aA
 have iq:=Pl.Cb.lt aA
 have jM:=Pl.Ex.size hE2
 replace aA:Pl.Cb w2 N2 41 [.bool false,.slice none 0 0,.slice none 0 0]:=aA
 refine Pl.aj ?_
 repeat refine Pl.af ?_
 refine Pl.fU (S:=fun X=>Pl.Ex w1 X) [(true,0,0),(true,1,1),(true,3,3),(true,4,11),(false,2,27),(true,5,31),(false,6,63)] fo Pl.aR (by kernel_rfl) (Pl.Ex.trans hE2 (Pl.Ex.drew _)) ?_
 have aJ:=Pl.Ex.drew w2
 generalize w2.drew=w3 at *
 have jX:=Pl.Ex.size aJ
 intro dL
 refine Pl.aL (.pointer (some ⟨N1,0,none⟩)) dL rfl rfl rfl rfl (fun X=>by kernel_rfl) ?_
 refine Pl.bn (part:=[.bool (decide ((Rat.num p)<0)),.slice Aa (limbs (Int.natAbs (Rat.num p))).length ca]) (fun X hX=>Pl.Cb.ex ak hX) rfl Tryz.underlying24 rfl (by kernel_rfl) dL rfl rfl rfl rfl rfl ?_
 refine Pl.aL (.pointer (some ⟨N1,2,none⟩)) dL rfl rfl rfl rfl (fun X=>by kernel_rfl) ?_
 refine Pl.iB (v:=.slice Ba (limbs (Rat.den p)).length ba) Tryz.underlying22 rfl (fun X hX=>Pl.Cb.at (j:=2) (Pl.Cb.ex ak hX) rfl) dL rfl rfl rfl rfl rfl ?_
 refine Pl.ay rfl rfl rfl rfl rfl (fun u X=>Pl.enters Tryz.func72 (by kernel_rfl) rfl u X) ?_
 refine Calls.mono (D7 _ _ (Rat.num p) (Zn.of (Un.below ua (Pl.Ex.trans hE1 (Pl.Ex.trans hE2 aJ)))) (Sz.le za (by omega)) _ rfl) ?_
 rintro e w4 ⟨v3,rfl,hv3,aP⟩
 obtain ⟨A4,c5,rfl,u6⟩:=hv3
 have kY:=Pl.Ex.size aP
 have fJ:=Pl.Ex.trans dL aP
 refine ⟨_,rfl,fJ,?_⟩
 refine Pl.aL (.agg #[.bool (decide ((-(Rat.num p))<0)),.slice A4 (limbs (Int.natAbs (-(Rat.num p)))).length c5,.slice Ba (limbs (Rat.den p)).length ba]) fJ rfl rfl rfl rfl (fun X=>by kernel_rfl) ?_
 refine Pl.bz (new:=[.bool (decide ((-(Rat.num p))<0)),.slice A4 (limbs (Int.natAbs (-(Rat.num p)))).length c5,.slice Ba (limbs (Rat.den p)).length ba]) (Pl.Cb.ex aA (Pl.Ex.trans aJ aP)) (by kernel_rfl) rfl (by simp [Value.oneCell']) rfl rfl rfl rfl rfl rfl (fun Y hY=>Pl.Ex.xs fJ hY (by omega)) ?_
 intro w5 iW bf
 have aW:=Pl.Ex.xs (Pl.Ex.trans hE2 (Pl.Ex.trans aJ aP)) iW (by omega)
 have mI:=Pl.Xs.size iW
 have hS5:=Pl.Ex.xs fJ iW (by omega)
 refine Pl.aj ?_
 have k7:=Un.xs u6 iW (Pl.Cb.ex aA (Pl.Ex.trans aJ aP)) (by simp)
 repeat refine Pl.af ?_
 exact Pl.aV rfl rfl bf Tryz.underlying41 rfl (by kernel_rfl) (⟨_,rfl,Qn.of (q := -p) rfl rfl k7 (Un.below ta (Pl.Ex.trans hE1 aW)) (Sz.neg za) ya,(Pl.Ex.trans hE1 aW)⟩)
theorem ig (w:World) (va vb:Value) (p q:Rat) (L M L2 M2:Nat) (ha:Qn w va p L M) (hb:Qn w vb q L2 M2) (K N:Nat) (h1:L+M2+1≤K) (h2:L2+M+1≤K) (h3:M+M2≤N) (hK:K≤100) (hN:N≤100) :
  Calls Tryz.prog 46 #[va,vb] w fun e w'=>∃ u,e = .returned u∧Qn w' u (p+q) K N∧Pl.Ex w w':=by
 obtain ⟨Aa,ca,Ba,ba,rfl,ua,ta,za,ya⟩:=ha
 obtain ⟨Ab,cb,Bb,bb,rfl,ub,tb,zb,yb⟩:=hb
 refine Rf.bQ (n:=26) [.a [.c 0 0,.c 0 1,.c 0 2],.a [.c 1 0,.c 1 1,.c 1 2]] [[.bool (decide (Rat.num p<0)),.slice Aa (limbs (Rat.num p).natAbs).length ca,.slice Ba (limbs (Rat.den p)).length ba],[.bool (decide (Rat.num q<0)),.slice Ab (limbs (Rat.num q).natAbs).length cb,.slice Bb (limbs (Rat.den q)).length bb]] [(0,(l7 p L M).S),(1,(l7 q L2 M2).S)] Tryz.func46 rfl (by kernel_rfl) rfl rfl ⟨RS.in ⟨Aa,ca,Ba,ba,rfl,ua,ta,za,ya⟩,RS.in ⟨Ab,cb,Bb,bb,rfl,ub,tb,zb,yb⟩,trivial⟩ ?_
 repeat refine Rf.aa ?_
 refine Rf.az (by kernel_rfl) ?_
 refine Rf.aD aK 0 rfl ?_
 refine Rf.aI ?_
 repeat refine Rf.aa ?_
 refine Rf.bM none fo ?_
 refine Rf.aO aK 22 3 rfl ?_
 refine Rf.aB 2 _ _ rfl rfl rfl rfl rfl rfl rfl rfl rfl (fun u X=>Pl.enters Tryz.func84 (by kernel_rfl) rfl u X) (fun α γ w h=>dx 2 (bC _ _ (Rat.den q) (bH (h.r 1 rfl)).2.2.1)) ?_
 refine Rf.aB 3 _ _ rfl rfl rfl rfl rfl rfl rfl rfl rfl (fun u X=>Pl.enters Tryz.func91 (by kernel_rfl) rfl u X) (fun α γ w h=>dx 3 (jA _ _ _ (Rat.num p) (((Rat.den q):Nat):Int) (bH (h.r 0 rfl)).1 (h.r 2 rfl) (Sz.le za (by omega)) (Sz.le (Sn.sz yb) (by omega)) _ rfl)) ?_
 refine Rf.aO aK 22 3 rfl ?_
 refine Rf.aB 4 _ _ rfl rfl rfl rfl rfl rfl rfl rfl rfl (fun u X=>Pl.enters Tryz.func84 (by kernel_rfl) rfl u X) (fun α γ w h=>dx 4 (bC _ _ (Rat.den p) (bH (h.r 0 rfl)).2.2.1)) ?_
 refine Rf.aB 5 _ _ rfl rfl rfl rfl rfl rfl rfl rfl rfl (fun u X=>Pl.enters Tryz.func91 (by kernel_rfl) rfl u X) (fun α γ w h=>dx 5 (jA _ _ _ (Rat.num q) (((Rat.den p):Nat):Int) (bH (h.r 1 rfl)).1 (h.r 4 rfl) (Sz.le zb (by omega)) (Sz.le (Sn.sz ya) (by omega)) _ rfl)) ?_
 refine Rf.aB 6 _ _ rfl rfl rfl rfl rfl rfl rfl rfl rfl (fun u X=>Pl.enters Tryz.func55 (by kernel_rfl) rfl u X) (fun α γ w h=>dx 6 (GX _ _ _ ((Rat.num p)*(((Rat.den q):Nat):Int)) ((Rat.num q)*(((Rat.den p):Nat):Int)) (h.r 3 rfl) (h.r 5 rfl) (Sz.le (Sz.mul za (Sn.sz yb) (by omega):Sz ((Rat.num p)*(((Rat.den q):Nat):Int)) (L+M2)) (by omega)) (Sz.le (Sz.mul zb (Sn.sz ya) (by omega):Sz ((Rat.num q)*(((Rat.den p):Nat):Int)) (L2+M)) (by omega)) _ rfl)) ?_
 refine Rf.aO aK 22 3 rfl ?_
 refine Rf.aB 7 _ _ rfl rfl rfl rfl rfl rfl rfl rfl rfl (fun u X=>Pl.enters Tryz.func84 (by kernel_rfl) rfl u X) (fun α γ w h=>dx 7 (bC _ _ (Rat.den p) (bH (h.r 0 rfl)).2.2.1)) ?_
 refine Rf.aO aK 22 3 rfl ?_
 refine Rf.aB 8 _ _ rfl rfl rfl rfl rfl rfl rfl rfl rfl (fun u X=>Pl.enters Tryz.func84 (by kernel_rfl) rfl u X) (fun α γ w h=>dx 8 (bC _ _ (Rat.den q) (bH (h.r 1 rfl)).2.2.1)) ?_
 refine Rf.aB 9 _ _ rfl rfl rfl rfl rfl rfl rfl rfl rfl (fun u X=>Pl.enters Tryz.func91 (by kernel_rfl) rfl u X) (fun α γ w h=>dx 9 (jA _ _ _ (((Rat.den p):Nat):Int) (((Rat.den q):Nat):Int) (h.r 7 rfl) (h.r 8 rfl) (Sz.le (Sn.sz ya) (by omega)) (Sz.le (Sn.sz yb) (by omega)) _ rfl)) ?_
 refine Rf.aB 10 _ _ rfl rfl rfl rfl rfl rfl rfl rfl rfl (fun u X=>Pl.enters Tryz.func83 (by kernel_rfl) rfl u X) (fun α γ w h=>eZ 10 (gJ _ _ _ (((Rat.num p)*(((Rat.den q):Nat):Int))+((Rat.num q)*(((Rat.den p):Nat):Int))) ((((Rat.den p):Nat):Int)*(((Rat.den q):Nat):Int)) (p+q) (h.r 6 rfl) (h.r 9 rfl) (max (L+M2) (L2+M)+1) (M+M2) (Sz.add (Sz.mul za (Sn.sz yb) (by omega):Sz ((Rat.num p)*(((Rat.den q):Nat):Int)) (L+M2)) (Sz.mul zb (Sn.sz ya) (by omega):Sz ((Rat.num q)*(((Rat.den p):Nat):Int)) (L2+M)) (by omega) (by omega):Sz (((Rat.num p)*(((Rat.den q):Nat):Int))+((Rat.num q)*(((Rat.den p):Nat):Int))) (max (L+M2) (L2+M)+1)) (Sz.mul (Sn.sz ya) (Sn.sz yb) (by omega):Sz ((((Rat.den p):Nat):Int)*(((Rat.den q):Nat):Int)) (M+M2)) (by omega) (by omega) (Int.mul_ne_zero (show ((p.den:Nat):Int)≠0 by have:=p.den_pos;omega) (show ((q.den:Nat):Int)≠0 by have:=q.den_pos;omega)) (by rw [← Int.natCast_mul];exact Rq.Bf p q))) ?_
 refine Rf.aO aK 22 3 rfl ?_
 refine Rf.dQ (by kernel_rfl) ?_
 refine Rf.bN [4] [2] [10] rfl rfl rfl ?_
 repeat refine Rf.aa ?_
 exact Rf.bI aK (fun _ _ h=>h) rfl rfl (fun α γ w h=>⟨_,rfl,(Qn.le (h.r 10 rfl) (by omega) (by omega)),h.ex⟩)
theorem jg (w:World) (va vb:Value) (p q:Rat) (L M L2 M2:Nat) (ha:Qn w va p L M) (hb:Qn w vb q L2 M2) (K N:Nat) (h1:L+L2≤K) (h3:M+M2≤N) (hK:K≤100) (hN:N≤100) :
  Calls Tryz.prog 48 #[va,vb] w fun e w'=>∃ u,e = .returned u∧Qn w' u (p*q) K N∧Pl.Ex w w':=by
 obtain ⟨Aa,ca,Ba,ba,rfl,ua,ta,za,ya⟩:=ha
 obtain ⟨Ab,cb,Bb,bb,rfl,ub,tb,zb,yb⟩:=hb
 refine Rf.bQ (n:=18) [.a [.c 0 0,.c 0 1,.c 0 2],.a [.c 1 0,.c 1 1,.c 1 2]] [[.bool (decide (Rat.num p<0)),.slice Aa (limbs (Rat.num p).natAbs).length ca,.slice Ba (limbs (Rat.den p)).length ba],[.bool (decide (Rat.num q<0)),.slice Ab (limbs (Rat.num q).natAbs).length cb,.slice Bb (limbs (Rat.den q)).length bb]] [(0,(l7 p L M).S),(1,(l7 q L2 M2).S)] Tryz.func48 rfl (by kernel_rfl) rfl rfl ⟨RS.in ⟨Aa,ca,Ba,ba,rfl,ua,ta,za,ya⟩,RS.in ⟨Ab,cb,Bb,bb,rfl,ub,tb,zb,yb⟩,trivial⟩ ?_
 repeat refine Rf.aa ?_
 refine Rf.az (by kernel_rfl) ?_
 refine Rf.aD aK 0 rfl ?_
 refine Rf.aI ?_
 repeat refine Rf.aa ?_
 refine Rf.bM none fo ?_
 refine Rf.aO aK 14 3 rfl ?_
 refine Rf.aB 2 _ _ rfl rfl rfl rfl rfl rfl rfl rfl rfl (fun u X=>Pl.enters Tryz.func91 (by kernel_rfl) rfl u X) (fun α γ w h=>dx 2 (jA _ _ _ (Rat.num p) (Rat.num q) (bH (h.r 0 rfl)).1 (bH (h.r 1 rfl)).1 (Sz.le za (by omega)) (Sz.le zb (by omega)) _ rfl)) ?_
 refine Rf.aO aK 14 3 rfl ?_
 refine Rf.aB 3 _ _ rfl rfl rfl rfl rfl rfl rfl rfl rfl (fun u X=>Pl.enters Tryz.func84 (by kernel_rfl) rfl u X) (fun α γ w h=>dx 3 (bC _ _ (Rat.den p) (bH (h.r 0 rfl)).2.2.1)) ?_
 refine Rf.aO aK 14 3 rfl ?_
 refine Rf.aB 4 _ _ rfl rfl rfl rfl rfl rfl rfl rfl rfl (fun u X=>Pl.enters Tryz.func84 (by kernel_rfl) rfl u X) (fun α γ w h=>dx 4 (bC _ _ (Rat.den q) (bH (h.r 1 rfl)).2.2.1)) ?_
 refine Rf.aB 5 _ _ rfl rfl rfl rfl rfl rfl rfl rfl rfl (fun u X=>Pl.enters Tryz.func91 (by kernel_rfl) rfl u X) (fun α γ w h=>dx 5 (jA _ _ _ (((Rat.den p):Nat):Int) (((Rat.den q):Nat):Int) (h.r 3 rfl) (h.r 4 rfl) (Sz.le (Sn.sz ya) (by omega)) (Sz.le (Sn.sz yb) (by omega)) _ rfl)) ?_
 refine Rf.aB 6 _ _ rfl rfl rfl rfl rfl rfl rfl rfl rfl (fun u X=>Pl.enters Tryz.func83 (by kernel_rfl) rfl u X) (fun α γ w h=>eZ 6 (gJ _ _ _ ((Rat.num p)*(Rat.num q)) ((((Rat.den p):Nat):Int)*(((Rat.den q):Nat):Int)) (p*q) (h.r 2 rfl) (h.r 5 rfl) (L+L2) (M+M2) (Sz.mul za zb (by omega):Sz ((Rat.num p)*(Rat.num q)) (L+L2)) (Sz.mul (Sn.sz ya) (Sn.sz yb) (by omega):Sz ((((Rat.den p):Nat):Int)*(((Rat.den q):Nat):Int)) (M+M2)) (by omega) (by omega) (Int.mul_ne_zero (show ((p.den:Nat):Int)≠0 by have:=p.den_pos;omega) (show ((q.den:Nat):Int)≠0 by have:=q.den_pos;omega)) (by rw [← Int.natCast_mul];exact Rq.Bg p q))) ?_
 refine Rf.aO aK 14 3 rfl ?_
 refine Rf.dQ (by kernel_rfl) ?_
 refine Rf.bN [4] [2] [6] rfl rfl rfl ?_
 repeat refine Rf.aa ?_
 exact Rf.bI aK (fun _ _ h=>h) rfl rfl (fun α γ w h=>⟨_,rfl,(Qn.le (h.r 6 rfl) (by omega) (by omega)),h.ex⟩)
theorem jD (w:World) (va vb:Value) (p q:Rat) (L M L2 M2:Nat) (ha:Qn w va p L M) (hb:Qn w vb q L2 M2) (K N:Nat) (h1:L+M2+1≤K) (h2:L2+M+1≤K) (h3:M+M2≤N) (hK:K≤100) (hN:N≤100) :
  Calls Tryz.prog 47 #[va,vb] w fun e w'=>∃ u,e = .returned u∧Qn w' u (p-q) K N∧Pl.Ex w w':=by
 obtain ⟨Aa,ca,Ba,ba,rfl,ua,ta,za,ya⟩:=ha
 obtain ⟨Ab,cb,Bb,bb,rfl,ub,tb,zb,yb⟩:=hb
 refine Rf.bQ (n:=9) [.a [.c 0 0,.c 0 1,.c 0 2],.a [.c 1 0,.c 1 1,.c 1 2]] [[.bool (decide (Rat.num p<0)),.slice Aa (limbs (Rat.num p).natAbs).length ca,.slice Ba (limbs (Rat.den p)).length ba],[.bool (decide (Rat.num q<0)),.slice Ab (limbs (Rat.num q).natAbs).length cb,.slice Bb (limbs (Rat.den q)).length bb]] [(0,(l7 p L M).S),(1,(l7 q L2 M2).S)] Tryz.func47 rfl (by kernel_rfl) rfl rfl ⟨RS.in ⟨Aa,ca,Ba,ba,rfl,ua,ta,za,ya⟩,RS.in ⟨Ab,cb,Bb,bb,rfl,ub,tb,zb,yb⟩,trivial⟩ ?_
 repeat refine Rf.aa ?_
 refine Rf.az (by kernel_rfl) ?_
 refine Rf.aD aK 0 rfl ?_
 refine Rf.aI ?_
 repeat refine Rf.aa ?_
 refine Rf.bM none fo ?_
 refine Rf.aO aK 5 3 rfl ?_
 refine Rf.aB 2 _ _ rfl rfl rfl rfl rfl rfl rfl rfl rfl (fun u X=>Pl.enters Tryz.func54 (by kernel_rfl) rfl u X) (fun α γ w h=>eZ 2 (kv _ _ q L2 M2 (h.r 1 rfl) (by omega))) ?_
 refine Rf.aB 3 _ _ rfl rfl rfl rfl rfl rfl rfl rfl rfl (fun u X=>Pl.enters Tryz.func46 (by kernel_rfl) rfl u X) (fun α γ w h=>eZ 3 (ig _ _ _ p (-q) L M L2 M2 (h.r 0 rfl) (h.r 2 rfl) (max (L+M2) (L2+M)+1) (M+M2) (by omega) (by omega) (by omega) (by omega) (by omega))) ?_
 refine Rf.aO aK 5 3 rfl ?_
 refine Rf.dQ (by kernel_rfl) ?_
 refine Rf.bN [4] [2] [3] rfl rfl rfl ?_
 repeat refine Rf.aa ?_
 exact Rf.bI aK (fun _ _ h=>h) rfl rfl (fun α γ w h=>⟨_,rfl,by rw [Rat.sub_eq_add_neg];exact (Qn.le (h.r 3 rfl) (by omega) (by omega)),h.ex⟩)
end Go.Proofs.YtdpmbgomcjnohaaGreatDoor
namespace Go.Proofs.YtdpmbgomcjnohaaGreatDoor
open Go.RowKit
set_option linter.all false
set_option maxRecDepth 100000
set_option maxHeartbeats 8000000
theorem rY (a:Int) (k:Nat):sg (decide (a<0)) (a.natAbs*2^k)=a*2^k:=by
 have e:((a.natAbs*2^k:Nat):Int)=(a.natAbs:Int)*2^k:=by push_cast;rfl
 by_cases h:a<0
 · rw [decide_eq_true h,uf,e,← Int.neg_mul];congr 1;omega
 · rw [decide_eq_false h,og,e];congr 1;omega
theorem Bp (k:Nat):sg false (1*2^k)=(2:Int)^k:=by rw [og,Nat.one_mul];push_cast;rfl
theorem p8 {a:Int} {K k:Nat} (h:Sz a K) (hk:k<32*40):(limbs (a.natAbs*2^k)).length≤K+40:=by
 have:=(h.mul (Sz.two (n:=k) (M:=40) hk) (Nat.le_refl _))
 have e:(a*2^k).natAbs=a.natAbs*2^k:=by rw [Int.natAbs_mul,Int.natAbs_pow];rfl
 rw [← e];exact this
end Go.Proofs.YtdpmbgomcjnohaaGreatDoor
namespace Go.Proofs.YtdpmbgomcjnohaaGreatDoor
open Go.RowKit Rf
set_option linter.all false
set_option maxRecDepth 100000
set_option maxHeartbeats 8000000
theorem rZ (w:World) (va:Value) (a s:Int) (ha:Zn w va a) (hl:Sz a 100) (h0:0≤s) (h1 : -900≤s) (h2:s≤900) :
  Calls Tryz.prog 51 #[va,.int .i64 s] w fun e w'=>∃ u,e = .returned u∧Zn w' u (shl a s)∧Pl.Ex w w':=by
 obtain ⟨k,rfl⟩:∃ k:Nat,s=(k:Int):=⟨s.natAbs,by omega⟩
 obtain ⟨Aa,ca,rfl,ua⟩:=ha
 refine Rf.bQ (n:=29) [.a [.c 0 0,.c 0 1],.v (.int .i64 ((k:Nat):Int))] [[.bool (decide (a<0)),.slice Aa (limbs (Int.natAbs a)).length ca]] [(0,(rA a).S)] Tryz.func51 rfl (by kernel_rfl) rfl rfl ⟨RS.in ⟨Aa,ca,rfl,ua⟩,trivial⟩ ?_
 repeat refine Rf.aa ?_
 refine Rf.az (by kernel_rfl) ?_
 refine Rf.aD aK 0 rfl ?_
 refine Rf.aI ?_
 repeat refine Rf.aa ?_
 refine Rf.az (by kernel_rfl) ?_
 refine Rf.aD aK 2 rfl ?_
 refine Rf.iw (v:=.bool true) (fun X=>iP (by omega) X) rfl rfl rfl rfl rfl rfl ?_
 refine Rf.aI ?_
 repeat refine Rf.aa ?_
 refine Rf.eU rfl ?_
 repeat refine Rf.aa ?_
 refine Rf.bM none fo ?_
 refine Rf.aO aK 8 2 rfl ?_
 refine Rf.aB 1 _ _ rfl rfl rfl rfl rfl rfl rfl rfl rfl (fun u X=>Pl.enters Tryz.func92 (by kernel_rfl) rfl u X) (fun α γ w h=>GY 1 (rT _ _ a.natAbs k (yc (h.r 0 rfl)) (by omega) (Nat.le_trans hl (by decide)) _ rfl)) ?_
 refine Rf.aB 2 (rA (shl a ((k:Nat):Int))) (.a [.c 2 0,.c 2 1]) rfl rfl rfl rfl rfl rfl rfl rfl rfl (fun u X=>Pl.enters Tryz.func62 (by kernel_rfl) rfl u X) (fun α γ w h=>by have e0:γ 0 0 = .bool (decide (a<0)):=Po (h.r 0 rfl);show Calls _ _ #[γ 0 0,γ 1 0] _ _;rw [e0];exact dx 2 (eY _ (decide (a<0)) _ (limbs (a.natAbs*2^k)) (h.r 1 rfl) (Nat.le_trans (p8 hl (by omega)) (by decide)) _ (aH _) (shl a ((k:Nat):Int)) ((rY a k).trans (oL a k).symm))) ?_
 refine Rf.aO aK 8 2 rfl ?_
 refine Rf.dQ (by kernel_rfl) ?_
 refine Rf.bN [1,2,4] [0,1] [0,2] rfl rfl rfl ?_
 repeat refine Rf.aa ?_
 exact Rf.bI aK (fun _ _ h=>h) rfl rfl (fun α γ w h=>⟨_,rfl,h.r 2 rfl,h.ex⟩)
theorem sj (w:World) (va:Value) (a s:Int) (ha:Zn w va a) (hl:Sz a 100) (h0:¬ 0≤s) (h1 : -900≤s) (h2:s≤900) :
  Calls Tryz.prog 51 #[va,.int .i64 s] w fun e w'=>∃ u,e = .returned u∧Zn w' u (shl a s)∧Pl.Ex w w':=by
 obtain ⟨k,rfl⟩:∃ k:Nat,s = -(k:Int):=⟨s.natAbs,by omega⟩
 obtain ⟨Aa,ca,rfl,ua⟩:=ha
 refine Rf.bQ (n:=29) [.a [.c 0 0,.c 0 1],.v (.int .i64 (-((k:Nat):Int)))] [[.bool (decide (a<0)),.slice Aa (limbs (Int.natAbs a)).length ca]] [(0,(rA a).S)] Tryz.func51 rfl (by kernel_rfl) rfl rfl ⟨RS.in ⟨Aa,ca,rfl,ua⟩,trivial⟩ ?_
 repeat refine Rf.aa ?_
 refine Rf.az (by kernel_rfl) ?_
 refine Rf.aD aK 0 rfl ?_
 refine Rf.aI ?_
 repeat refine Rf.aa ?_
 refine Rf.az (by kernel_rfl) ?_
 refine Rf.aD aK 2 rfl ?_
 refine Rf.iw (v:=.bool false) (fun X=>jm (by omega) X) rfl rfl rfl rfl rfl rfl ?_
 refine Rf.aI ?_
 repeat refine Rf.aa ?_
 refine Rf.eP rfl ?_
 repeat refine Rf.aa ?_
 refine Rf.dZ ?_
 repeat refine Rf.aa ?_
 refine Rf.bM none fo ?_
 refine Rf.aO aK 16 2 rfl ?_
 refine Rf.Pn (e := 67) (m:=1) [.int .u32 1] 1 (VC 1) rfl rfl rfl rfl rfl (fun _ _=>rfl) (fun α γ X=>by kernel_rfl) (fun N w k=>Un.one (x:=1) k rfl (by omega)) ?_
 refine Rf.aO aK 16 2 rfl ?_
 refine Rf.oI (.int .i64 ((k:Nat):Int)) rfl rfl rfl rfl rfl rfl rfl (fun X=>(eH (by omega) X).trans (by rw [Int.neg_neg])) ?_
 refine Rf.aB 2 _ _ rfl rfl rfl rfl rfl rfl rfl rfl rfl (fun u X=>Pl.enters Tryz.func92 (by kernel_rfl) rfl u X) (fun α γ w h=>GY 2 (rT _ _ 1 k (h.r 1 rfl) (by omega) (Nat.le_trans (Sz.lit (z:=1) (K:=1) (by decide) (by decide)) (by decide)) _ rfl)) ?_
 refine Rf.aB 3 _ _ rfl rfl rfl rfl rfl rfl rfl rfl rfl (fun u X=>Pl.enters Tryz.func62 (by kernel_rfl) rfl u X) (fun α γ w h=>dx 3 (eY _ false _ (limbs (1*2^k)) (h.r 2 rfl) (by rw [Nat.one_mul];exact Nat.le_trans (zX (M:=40) (by omega)) (by decide)) _ (aH _) ((2:Int)^k) (Bp k))) ?_
 refine Rf.aB 4 (rA (shl a (-((k:Nat):Int)))) (.t [.a [.c 4 0,.c 4 1],.a [.c 4 2,.c 4 3],.v (.int .i64 0)]) rfl rfl rfl rfl rfl rfl rfl rfl rfl (fun u X=>Pl.enters Tryz.func93 (by kernel_rfl) rfl u X) (fun α γ w h=>D6 4 (wS _ _ _ a ((2:Int)^k) (h.r 0 rfl) (h.r 3 rfl) (Sz.le hl (by decide)) (Sz.le (Sz.two (M:=40) (by omega)) (by decide)) (Bq k) (shl a (-((k:Nat):Int))) _ (qJ a k).symm rfl)) ?_
 refine Rf.aO aK 16 2 rfl ?_
 refine Rf.dQ (by kernel_rfl) ?_
 refine Rf.bN [4,5] [1,2] [4] rfl rfl rfl ?_
 repeat refine Rf.aa ?_
 refine Rf.az (by kernel_rfl) ?_
 refine Rf.aD aK 4 rfl ?_
 refine Rf.aI ?_
 repeat refine Rf.aa ?_
 exact Rf.bI aK (fun _ _ h=>h) rfl rfl (fun α γ w h=>⟨_,rfl,h.r 4 rfl,h.ex⟩)
theorem oM (w:World) (va:Value) (a s:Int) (ha:Zn w va a) (hl:Sz a 100) (h1 : -900≤s) (h2:s≤900) :
  Calls Tryz.prog 51 #[va,.int .i64 s] w fun e w'=>∃ u,e = .returned u∧Zn w' u (shl a s)∧Pl.Ex w w':=by
 by_cases h0:0≤s
 · exact rZ w va a s ha hl h0 h1 h2
 · exact sj w va a s ha hl h0 h1 h2
end Go.Proofs.YtdpmbgomcjnohaaGreatDoor
namespace Go.Proofs.YtdpmbgomcjnohaaGreatDoor
open Go.RowKit 
set_option linter.all false
set_option maxRecDepth 100000
set_option maxHeartbeats 8000000
theorem kR {n:Int} (h:0≤n):((shl 1 n:Int):Rat)=2^n:=by
 rw [z8 h];unfold Dy.dv;exact Rat.one_mul _
theorem qa {n:Int} (h:n≤0):Rat.divInt 1 (shl 1 (-n))=2^n:=by
 rw [Rat.divInt_eq_div,kR (show 0 ≤ -n by omega)]
 have h1:=Dy.x8 n
 have h2:=Dy.D8 (-n)
 show (1:Rat)/2^(-n)=2^n
 grind
theorem jE (w:World) (n:Int) (J:Nat) (hJ:J≤28) (h1 : -(32*(J:Int))≤n) (h2:n≤32*(J:Int)) :
  Calls Tryz.prog 78 #[.int .i64 n] w fun e w'=>∃ u,e = .returned u∧Qn w' u ((2:Rat)^n) (J+1) (J+1)∧Pl.Ex w w':=by
 refine Pl.aN (n:=21) (vs:=[.int .i64 n]) Tryz.func78 rfl (by kernel_rfl) (by simp) ?_
 repeat refine Pl.af ?_
 refine Pl.ah (by kernel_rfl) ?_
 refine Pl.bK (z:=.agg #[.bool false,.slice none 0 0,.slice none 0 0]) (by kernel_rfl) rfl rfl rfl rfl (fun Y hY=>trivial) ?_
 intro N1 w1 hE1 bT ak
 have dP:=Pl.Cb.lt ak
 have jC:=Pl.Ex.size hE1
 replace ak:Pl.Cb w1 N1 41 [.bool false,.slice none 0 0,.slice none 0 0]:=ak
 refine Pl.aj ?_
 repeat refine Pl.af ?_
 refine Pl.ah (by kernel_rfl) ?_
 refine Pl.aG trivial rfl ?_
 by_cases c2:n≥0
 · refine Pl.bP (v:=.bool true) (fun X=>iP c2 X) trivial rfl rfl rfl rfl rfl rfl ?_
   refine Pl.aj ?_
   repeat refine Pl.af ?_
   refine Pl.fP rfl ?_
   repeat refine Pl.af ?_
   refine Pl.ah (by kernel_rfl) ?_
   refine Pl.ay rfl rfl rfl rfl rfl (fun u X=>Pl.enters Tryz.func53 (by kernel_rfl) rfl u X) ?_
   refine Calls.mono (uG _ 1 (by decide) (by decide)) ?_
   rintro e w2 ⟨v3,rfl,hv3,hE2⟩
   obtain ⟨A4,c5,rfl,u6⟩:=hv3
   have jM:=Pl.Ex.size hE2
   refine ⟨_,rfl,trivial,?_⟩
   refine Pl.aG trivial rfl ?_
   refine Pl.ay rfl rfl rfl rfl rfl (fun u X=>Pl.enters Tryz.func51 (by kernel_rfl) rfl u X) ?_
   refine Calls.mono (oM _ _ 1 n (Zn.of u6) (Sz.le (Sz.lit (K:=1) (by decide) (by decide)) (by decide)) (by omega) (by omega)) ?_
   rintro e w3 ⟨v7,rfl,hv7,aJ⟩
   obtain ⟨A8,c9,rfl,zK⟩:=hv7
   have jX:=Pl.Ex.size aJ
   refine ⟨_,rfl,trivial,?_⟩
   refine Pl.ay rfl rfl rfl rfl rfl (fun u X=>Pl.enters Tryz.func82 (by kernel_rfl) rfl u X) ?_
   refine Calls.mono (gp _ _ (shl 1 n) (1+J) (Zn.of zK) (jF (j:=J) (Sz.lit (K:=1) (by decide) (by decide)) (by omega) (Nat.le_refl _))) ?_
   rintro e w4 ⟨v11,rfl,jN,aP⟩
   obtain ⟨JL,c13,rD,c15,rfl,u16,G5,wU,yu⟩:=jN
   have kY:=Pl.Ex.size aP
   refine ⟨_,rfl,trivial,?_⟩
   refine Pl.bz (new:=[.bool (decide ((Rat.num (((shl 1 n):Int):Rat))<0)),.slice JL (limbs (Int.natAbs (Rat.num (((shl 1 n):Int):Rat)))).length c13,.slice rD (limbs (Rat.den (((shl 1 n):Int):Rat))).length c15]) (Pl.Cb.ex ak (Pl.Ex.trans hE2 (Pl.Ex.trans aJ aP))) (by kernel_rfl) rfl (by simp [Value.oneCell']) rfl rfl rfl rfl rfl rfl (fun Y hY=>trivial) ?_
   intro w5 iW gQ
   have aW:=Pl.Ex.xs (Pl.Ex.trans hE1 (Pl.Ex.trans hE2 (Pl.Ex.trans aJ aP))) iW (by omega)
   have mI:=Pl.Xs.size iW
   refine Pl.aj ?_
   have k19:=Un.xs u16 iW (Pl.Cb.ex ak (Pl.Ex.trans hE2 (Pl.Ex.trans aJ aP))) (by simp)
   have k20:=Un.xs G5 iW (Pl.Cb.ex ak (Pl.Ex.trans hE2 (Pl.Ex.trans aJ aP))) (by simp)
   repeat refine Pl.af ?_
   exact Pl.aV rfl rfl gQ Tryz.underlying41 rfl (by kernel_rfl) (⟨_,rfl,Qn.le (by rw [← kR (show 0≤n by omega)];exact (Qn.mk k19 k20 wU yu)) (by omega) (by omega),aW⟩)
 · refine Pl.bP (v:=.bool false) (fun X=>jm c2 X) trivial rfl rfl rfl rfl rfl rfl ?_
   refine Pl.aj ?_
   repeat refine Pl.af ?_
   refine Pl.dH rfl ?_
   repeat refine Pl.af ?_
   refine Pl.fG ?_
   repeat refine Pl.af ?_
   refine Pl.ah (by kernel_rfl) ?_
   refine Pl.ay rfl rfl rfl rfl rfl (fun u X=>Pl.enters Tryz.func53 (by kernel_rfl) rfl u X) ?_
   refine Calls.mono (uG _ 1 (by decide) (by decide)) ?_
   rintro e w2 ⟨v3,rfl,hv3,hE2⟩
   obtain ⟨A4,c5,rfl,u6⟩:=hv3
   have jM:=Pl.Ex.size hE2
   refine ⟨_,rfl,trivial,?_⟩
   refine Pl.ay rfl rfl rfl rfl rfl (fun u X=>Pl.enters Tryz.func53 (by kernel_rfl) rfl u X) ?_
   refine Calls.mono (uG _ 1 (by decide) (by decide)) ?_
   rintro e w3 ⟨v7,rfl,hv7,aJ⟩
   obtain ⟨A8,c9,rfl,zK⟩:=hv7
   have jX:=Pl.Ex.size aJ
   refine ⟨_,rfl,trivial,?_⟩
   refine Pl.aG trivial rfl ?_
   refine Pl.qb (v:=.int .i64 (-n)) trivial rfl rfl rfl rfl rfl (fun X=>eH (by omega) X) ?_
   refine Pl.ay rfl rfl rfl rfl rfl (fun u X=>Pl.enters Tryz.func51 (by kernel_rfl) rfl u X) ?_
   refine Calls.mono (oM _ _ 1 (-n) (Zn.of zK) (Sz.le (Sz.lit (K:=1) (by decide) (by decide)) (by decide)) (by omega) (by omega)) ?_
   rintro e w4 ⟨v11,rfl,jN,aP⟩
   obtain ⟨JL,c13,rfl,Ox⟩:=jN
   have kY:=Pl.Ex.size aP
   refine ⟨_,rfl,trivial,?_⟩
   refine Pl.ay rfl rfl rfl rfl rfl (fun u X=>Pl.enters Tryz.func97 (by kernel_rfl) rfl u X) ?_
   refine Calls.mono (jf _ _ _ 1 (shl 1 (-n)) (Zn.of (Un.below u6 (Pl.Ex.trans aJ aP))) (Zn.of Ox) 1 (1+J) (Sz.lit (by decide) (by decide)) (jF (j:=J) (Sz.lit (K:=1) (by decide) (by decide)) (by omega) (Nat.le_refl _)) (by omega) (by omega) (by have:=Dy.wV (m:=1) (s := -n) (by decide) (by omega);exact Int.ne_of_gt this)) ?_
   rintro e w5 ⟨vq,rfl,rz,aW⟩
   obtain ⟨A1,c1,A2,c2,rfl,u1,u2,z1,z2⟩:=rz
   have mI:=Pl.Ex.size aW
   refine ⟨_,rfl,trivial,?_⟩
   refine Pl.aG trivial rfl ?_
   refine Pl.bK (z:=.agg #[.bool false,.slice none 0 0,.slice none 0 0]) (by kernel_rfl) rfl rfl rfl rfl (fun Y hY=>trivial) ?_
   intro Nt w6 bO EX eF
   have Mc:=Pl.Cb.lt eF
   have rC:=Pl.Ex.size bO
   replace eF:Pl.Cb w6 Nt 41 [.bool false,.slice none 0 0,.slice none 0 0]:=eF
   refine Pl.bz (new:=[.bool (decide ((Rat.num (Rat.divInt 1 (shl 1 (-n))))<0)),.slice A1 (limbs (Int.natAbs (Rat.num (Rat.divInt 1 (shl 1 (-n)))))).length c1,.slice A2 (limbs (Rat.den (Rat.divInt 1 (shl 1 (-n))))).length c2]) eF (by kernel_rfl) rfl (by simp [Value.oneCell']) rfl rfl rfl rfl rfl rfl (fun Y hY=>trivial) ?_
   intro w7 iM jZ
   have cB:=Pl.Ex.xs bO iM (by omega)
   have wm:=Pl.Xs.size iM
   refine Pl.aG trivial rfl ?_
   refine Pl.aj ?_
   repeat refine Pl.af ?_
   refine Pl.ah (by kernel_rfl) ?_
   refine Pl.bg (part:=[.bool (decide ((Rat.num (Rat.divInt 1 (shl 1 (-n))))<0)),.slice A1 (limbs (Int.natAbs (Rat.num (Rat.divInt 1 (shl 1 (-n)))))).length c1,.slice A2 (limbs (Rat.den (Rat.divInt 1 (shl 1 (-n))))).length c2]) jZ rfl Tryz.underlying41 rfl (by kernel_rfl) trivial rfl rfl rfl rfl rfl ?_
   refine Pl.bz (new:=[.bool (decide ((Rat.num (Rat.divInt 1 (shl 1 (-n))))<0)),.slice A1 (limbs (Int.natAbs (Rat.num (Rat.divInt 1 (shl 1 (-n)))))).length c1,.slice A2 (limbs (Rat.den (Rat.divInt 1 (shl 1 (-n))))).length c2]) (Pl.Cb.ex ak (Pl.Ex.trans hE2 (Pl.Ex.trans aJ (Pl.Ex.trans aP (Pl.Ex.trans aW cB))))) (by kernel_rfl) rfl (by simp [Value.oneCell']) rfl rfl rfl rfl rfl rfl (fun Y hY=>trivial) ?_
   intro w8 iL gQ
   have iX:=Pl.Ex.xs (Pl.Ex.trans hE1 (Pl.Ex.trans hE2 (Pl.Ex.trans aJ (Pl.Ex.trans aP (Pl.Ex.trans aW cB))))) iL (by omega)
   have EW:=Pl.Xs.size iL
   have Md:=Pl.Cb.xs jZ iL (by simp;omega)
   refine Pl.aj ?_
   have k16:=Un.xs (Un.below u1 cB) iL (Pl.Cb.ex ak (Pl.Ex.trans hE2 (Pl.Ex.trans aJ (Pl.Ex.trans aP (Pl.Ex.trans aW cB))))) (by simp)
   have k17:=Un.xs (Un.below u2 cB) iL (Pl.Cb.ex ak (Pl.Ex.trans hE2 (Pl.Ex.trans aJ (Pl.Ex.trans aP (Pl.Ex.trans aW cB))))) (by simp)
   repeat refine Pl.af ?_
   exact Pl.aV rfl rfl gQ Tryz.underlying41 rfl (by kernel_rfl) (⟨_,rfl,Qn.le (by rw [← qa (show n≤0 by omega)];exact (Qn.mk k16 k17 z1 z2)) (by omega) (by omega),iX⟩)
theorem bY (w:World) (va:Value) (x:Rat) (L J:Nat) (lo hi:Int) (ha:Dn w va x L lo hi) (hL:L+J+1≤100) (hJ:J≤28) (h1 : -(32*(J:Int))≤lo) (h2:hi≤32*(J:Int)) :
  Calls Tryz.prog 36 #[va] w fun e w'=>∃ u,e = .returned u∧Qn w' u x (L+J+1) (J+2)∧Pl.Ex w w':=by
 obtain ⟨ma,ea,Aa,ca,rfl,ua,da⟩:=ha
 have yx:=da.lo
 have yz:=da.hi
 refine Pl.aN (n:=10) (vs:=[.agg #[.bool (decide (ma<0)),.slice Aa (limbs (Int.natAbs ma)).length ca,.int .i64 ea]]) Tryz.func36 rfl (by kernel_rfl) (by simp) ?_
 repeat refine Pl.af ?_
 refine Pl.ah (by kernel_rfl) ?_
 refine Pl.bF (cs:=[.bool (decide (ma<0)),.slice Aa (limbs (Int.natAbs ma)).length ca,.int .i64 ea]) rfl rfl rfl rfl rfl rfl (fun Y hY=>trivial) ?_
 intro N1 w1 hE1 bT ak
 have dP:=Pl.Cb.lt ak
 have jC:=Pl.Ex.size hE1
 refine Pl.bK (z:=.agg #[.bool false,.slice none 0 0,.slice none 0 0]) (by kernel_rfl) rfl rfl rfl rfl (fun Y hY=>trivial) ?_
 intro N2 w2 hE2 dU aA
 have iq:=Pl.Cb.lt aA
 have jM:=Pl.Ex.size hE2
 replace aA:Pl.Cb w2 N2 41 [.bool false,.slice none 0 0,.slice none 0 0]:=aA
 refine Pl.aj ?_
 repeat refine Pl.af ?_
 refine Pl.fU (S:=fun X=>Pl.Ex w1 X) [(true,0,0),(true,1,1),(true,3,3),(true,4,11),(false,2,27),(false,5,31),(false,6,63),(false,7,127)] fo Pl.aR (by kernel_rfl) (Pl.Ex.trans hE2 (Pl.Ex.drew _)) ?_
 have aJ:=Pl.Ex.drew w2
 generalize w2.drew=w3 at *
 have jX:=Pl.Ex.size aJ
 intro dL
 refine Pl.aL (.pointer (some ⟨N1,0,none⟩)) dL rfl rfl rfl rfl (fun X=>by kernel_rfl) ?_
 refine Pl.bn (part:=[.bool (decide (ma<0)),.slice Aa (limbs (Int.natAbs ma)).length ca]) (fun X hX=>Pl.Cb.ex ak hX) rfl Tryz.underlying24 rfl (by kernel_rfl) dL rfl rfl rfl rfl rfl ?_
 refine Pl.aL (.pointer (some ⟨N1,2,none⟩)) dL rfl rfl rfl rfl (fun X=>by kernel_rfl) ?_
 refine Pl.iB (v:=.int .i64 ea) Tryz.underlying3 rfl (fun X hX=>Pl.Cb.at (j:=2) (Pl.Cb.ex ak hX) rfl) dL rfl rfl rfl rfl rfl ?_
 refine Pl.ay rfl rfl rfl rfl rfl (fun u X=>Pl.enters Tryz.func82 (by kernel_rfl) rfl u X) ?_
 refine Calls.mono (gp _ _ ma L (Zn.of (Un.below ua (Pl.Ex.trans hE1 (Pl.Ex.trans hE2 aJ)))) da.sz) ?_
 rintro e w4 ⟨v3,rfl,hv3,aP⟩
 obtain ⟨A4,c5,A6,c7,rfl,u8,u9,Bt,Bu⟩:=hv3
 have kY:=Pl.Ex.size aP
 have fJ:=Pl.Ex.trans dL aP
 refine ⟨_,rfl,fJ,?_⟩
 refine Pl.ay rfl rfl rfl rfl rfl (fun u X=>Pl.enters Tryz.func78 (by kernel_rfl) rfl u X) ?_
 refine Calls.mono (jE _ ea J (by omega) (by omega) (by omega)) ?_
 rintro e w5 ⟨v11,rfl,jN,aW⟩
 obtain ⟨JL,c13,rD,c15,rfl,u16,G5,wU,yu⟩:=jN
 have mI:=Pl.Ex.size aW
 have hS5:=Pl.Ex.trans fJ aW
 refine ⟨_,rfl,hS5,?_⟩
 refine Pl.ay rfl rfl rfl rfl rfl (fun u X=>Pl.enters Tryz.func48 (by kernel_rfl) rfl u X) ?_
 refine Calls.mono (jg _ _ _ ((ma:Int):Rat) ((2:Rat)^ea) L 1 (J+1) (J+1) (Qn.mk (Un.below u8 aW) (Un.below u9 aW) Bt Bu) (Qn.mk u16 G5 wU yu) (L+(J+1)) (1+(J+1)) (by omega) (by omega) (by omega) (by omega)) ?_
 rintro e w6 ⟨v19,rfl,JM,bO⟩
 obtain ⟨S9,c21,Zb,c23,rfl,u24,u25,Pp,Pq⟩:=JM
 have rC:=Pl.Ex.size bO
 have kD:=Pl.Ex.trans hS5 bO
 refine ⟨_,rfl,kD,?_⟩
 refine Pl.bz (new:=[.bool (decide ((Rat.num (((ma:Int):Rat)*((2:Rat)^ea)))<0)),.slice S9 (limbs (Int.natAbs (Rat.num (((ma:Int):Rat)*((2:Rat)^ea))))).length c21,.slice Zb (limbs (Rat.den (((ma:Int):Rat)*((2:Rat)^ea)))).length c23]) (Pl.Cb.ex aA (Pl.Ex.trans aJ (Pl.Ex.trans aP (Pl.Ex.trans aW bO)))) (by kernel_rfl) rfl (by simp [Value.oneCell']) rfl rfl rfl rfl rfl rfl (fun Y hY=>Pl.Ex.xs kD hY (by omega)) ?_
 intro w7 iM bf
 have cB:=Pl.Ex.xs (Pl.Ex.trans hE2 (Pl.Ex.trans aJ (Pl.Ex.trans aP (Pl.Ex.trans aW bO)))) iM (by omega)
 have wm:=Pl.Xs.size iM
 have lJ:=Pl.Ex.xs kD iM (by omega)
 refine Pl.aj ?_
 have k27:=Un.xs u24 iM (Pl.Cb.ex aA (Pl.Ex.trans aJ (Pl.Ex.trans aP (Pl.Ex.trans aW bO)))) (by simp)
 have k28:=Un.xs u25 iM (Pl.Cb.ex aA (Pl.Ex.trans aJ (Pl.Ex.trans aP (Pl.Ex.trans aW bO)))) (by simp)
 repeat refine Pl.af ?_
 exact Pl.aV rfl rfl bf Tryz.underlying41 rfl (by kernel_rfl) (⟨_,rfl,Qn.le (by rw [← da.val];exact (Qn.mk k27 k28 Pp Pq)) (by omega) (by omega),(Pl.Ex.trans hE1 cB)⟩)
end Go.Proofs.YtdpmbgomcjnohaaGreatDoor
namespace Go.Proofs.YtdpmbgomcjnohaaGreatDoor
open Go.RowKit 
set_option linter.all false
set_option maxRecDepth 100000
set_option maxHeartbeats 8000000
theorem nA {w:World} {v:Value} {xs:List Nat} {b:Bool} (h:U w v xs) (k:Nat):Sz (sg b (dM xs k)) k:=by
 show (limbs (sg b (dM xs k)).natAbs).length≤k
 rw [sG];exact kX xs k h.lim
def uO (b:Bool) (xs ys:List Nat) (k:Nat):Rat:=Rat.divInt (sg b (dM xs k)) (if (limbs (dM ys k)).length=0 then 1 else ((dM ys k:Nat):Int))
theorem pM (w:World) (A:Option Addr) (c:Nat) (z ee:Int) (u:Un w (.slice A (limbs z.natAbs).length c) z.natAbs) (lz:Sz z 65536) :
  Calls Tryz.prog 14 #[.agg #[.bool (decide (z<0)),.slice A (limbs z.natAbs).length c,.int .i64 ee]] w fun e w'=>e = .returned (.bool (decide ((z=0∧ee=0∨z%2=1) ∧ -100000≤ee∧ee≤100000)))∧Pl.Ex w w':=by
 refine Pl.aN (n:=32) (vs:=[.agg #[.bool (decide (z<0)),.slice A (limbs (Int.natAbs z)).length c,.int .i64 ee]]) Tryz.func14 rfl (by kernel_rfl) (by simp) ?_
 repeat refine Pl.af ?_
 refine Pl.ah (by kernel_rfl) ?_
 refine Pl.bF (cs:=[.bool (decide (z<0)),.slice A (limbs (Int.natAbs z)).length c,.int .i64 ee]) rfl rfl rfl rfl rfl rfl (fun Y hY=>trivial) ?_
 intro N1 w1 hE1 bT ak
 have dP:=Pl.Cb.lt ak
 have jC:=Pl.Ex.size hE1
 refine Pl.aG trivial rfl ?_
 refine Pl.aj ?_
 repeat refine Pl.af ?_
 refine Pl.ah (by kernel_rfl) ?_
 refine Pl.aL (.pointer (some ⟨N1,0,none⟩)) trivial rfl rfl rfl rfl (fun X=>by kernel_rfl) ?_
 refine Pl.bg (part:=[.bool (decide (z<0)),.slice A (limbs (Int.natAbs z)).length c]) ak rfl Tryz.underlying24 rfl (by kernel_rfl) trivial rfl rfl rfl rfl rfl ?_
 refine Pl.ay rfl rfl rfl rfl rfl (fun u X=>Pl.enters Tryz.func61 (by kernel_rfl) rfl u X) ?_
 refine Calls.mono (Ae _ _ _ _ (Zn.ri (Zn.of (Un.below u hE1))) true (BX (Sz.le lz (by omega)))) ?_
 rintro e w2 ⟨rfl,hE2⟩
 have jM:=Pl.Ex.size hE2
 refine ⟨_,rfl,trivial,?_⟩
 refine Pl.qb (v:=.bool false) trivial rfl rfl rfl rfl rfl (fun X=>rfl) ?_
 refine Pl.aj ?_
 repeat refine Pl.af ?_
 refine Pl.dH rfl ?_
 repeat refine Pl.af ?_
 refine Pl.fG ?_
 repeat refine Pl.af ?_
 refine Pl.ah (by kernel_rfl) ?_
 refine Pl.aL (.pointer (some ⟨N1,0,none⟩)) trivial rfl rfl rfl rfl (fun X=>by kernel_rfl) ?_
 refine Pl.aL (.pointer (some ⟨N1,1,none⟩)) trivial rfl rfl rfl rfl (fun X=>by kernel_rfl) ?_
 refine Pl.bD (v:=.slice A (limbs (Int.natAbs z)).length c) Tryz.underlying22 rfl (Pl.Cb.at (j:=1) (Pl.Cb.ex ak hE2) rfl) trivial rfl rfl rfl rfl rfl ?_
 refine Pl.su Tryz.underlying22 trivial rfl rfl rfl rfl rfl ?_
 by_cases c2:((limbs (Int.natAbs z)).length)=0
 · refine Pl.bP (v:=.bool true) (fun X=>Pl.gW (Pl.e_t (by omega)) X) trivial rfl rfl rfl rfl rfl rfl ?_
   refine Pl.aj ?_
   repeat refine Pl.af ?_
   refine Pl.fP rfl ?_
   repeat refine Pl.af ?_
   refine Pl.ah (by kernel_rfl) ?_
   refine Pl.aL (.pointer (some ⟨N1,2,none⟩)) trivial rfl rfl rfl rfl (fun X=>by kernel_rfl) ?_
   refine Pl.bD (v:=.int .i64 ee) Tryz.underlying3 rfl (Pl.Cb.at (j:=2) (Pl.Cb.ex ak hE2) rfl) trivial rfl rfl rfl rfl rfl ?_
   by_cases c3:ee=0
   · refine Pl.bP (v:=.bool true) (fun X=>ed c3 X) trivial rfl rfl rfl rfl rfl rfl ?_
     refine Pl.aG trivial rfl ?_
     refine Pl.aj ?_
     repeat refine Pl.af ?_
     exact Pl.aZ rfl rfl  (⟨by rw [decide_eq_true (show (z=0∧ee=0∨z%2=1) ∧ -100000≤ee∧ee≤100000 by have hl1:=@kC z.natAbs;omega)],(Pl.Ex.trans hE1 hE2)⟩)
   · refine Pl.bP (v:=.bool false) (fun X=>jB c3 X) trivial rfl rfl rfl rfl rfl rfl ?_
     refine Pl.aG trivial rfl ?_
     refine Pl.aj ?_
     repeat refine Pl.af ?_
     exact Pl.aZ rfl rfl  (⟨by rw [decide_eq_false (show ¬ ((z=0∧ee=0∨z%2=1) ∧ -100000≤ee∧ee≤100000) by have hl1:=@kC z.natAbs;omega)],(Pl.Ex.trans hE1 hE2)⟩)
 · refine Pl.bP (v:=.bool false) (fun X=>Pl.gW (Pl.e_f (by omega)) X) trivial rfl rfl rfl rfl rfl rfl ?_
   refine Pl.aj ?_
   repeat refine Pl.af ?_
   refine Pl.dH rfl ?_
   repeat refine Pl.af ?_
   refine Pl.fG ?_
   repeat refine Pl.af ?_
   refine Pl.ah (by kernel_rfl) ?_
   refine Pl.aL (.pointer (some ⟨N1,0,none⟩)) trivial rfl rfl rfl rfl (fun X=>by kernel_rfl) ?_
   refine Pl.aL (.pointer (some ⟨N1,1,none⟩)) trivial rfl rfl rfl rfl (fun X=>by kernel_rfl) ?_
   refine Pl.bD (v:=.slice A (limbs (Int.natAbs z)).length c) Tryz.underlying22 rfl (Pl.Cb.at (j:=1) (Pl.Cb.ex ak hE2) rfl) trivial rfl rfl rfl rfl rfl ?_
   have hl0:=@kC z.natAbs
   have hq0:z.natAbs≠0:=by omega
   obtain ⟨ad,hA1,hcell⟩:=Hy u (i:=0) (by omega)
   subst hA1
   refine Pl.Hz (s:=1) (j:=0) Tryz.underlying22 (by kernel_rfl) rfl (by omega) trivial rfl rfl rfl rfl rfl rfl ?_
   refine Pl.bD (v:=.int .u32 (((z.natAbs%4294967296):Nat):Int)) Tryz.underlying67 rfl (xu (Un.below u (Pl.Ex.trans hE1 hE2)) hq0) trivial rfl rfl rfl rfl rfl ?_
   refine Pl.bP (v:=.int .u32 ((((z.natAbs%4294967296)%2):Nat):Int)) (fun X=>vw (a:=(z.natAbs%4294967296)) (b:=2) (by omega) (by omega) X) trivial rfl rfl rfl rfl rfl rfl ?_
   by_cases c3:((z.natAbs%4294967296)%2)=1
   · refine Pl.bP (v:=.bool true) (fun X=>Pl.gW (Pl.e_t (by omega)) X) trivial rfl rfl rfl rfl rfl rfl ?_
     refine Pl.aG trivial rfl ?_
     refine Pl.aL (.pointer (some ⟨N1,2,none⟩)) trivial rfl rfl rfl rfl (fun X=>by kernel_rfl) ?_
     refine Pl.bD (v:=.int .i64 ee) Tryz.underlying3 rfl (Pl.Cb.at (j:=2) (Pl.Cb.ex ak hE2) rfl) trivial rfl rfl rfl rfl rfl ?_
     by_cases c4:ee≥(-100000)
     · refine Pl.bP (v:=.bool true) (fun X=>iP c4 X) trivial rfl rfl rfl rfl rfl rfl ?_
       refine Pl.aG trivial rfl ?_
       refine Pl.aL (.pointer (some ⟨N1,2,none⟩)) trivial rfl rfl rfl rfl (fun X=>by kernel_rfl) ?_
       refine Pl.bD (v:=.int .i64 ee) Tryz.underlying3 rfl (Pl.Cb.at (j:=2) (Pl.Cb.ex ak hE2) rfl) trivial rfl rfl rfl rfl rfl ?_
       by_cases c5:ee≤100000
       · refine Pl.bP (v:=.bool true) (fun X=>xe c5 X) trivial rfl rfl rfl rfl rfl rfl ?_
         refine Pl.aG trivial rfl ?_
         refine Pl.aj ?_
         repeat refine Pl.af ?_
         exact Pl.aZ rfl rfl  (⟨by rw [decide_eq_true (show (z=0∧ee=0∨z%2=1) ∧ -100000≤ee∧ee≤100000 by have hl1:=@kC z.natAbs;omega)],(Pl.Ex.trans hE1 hE2)⟩)
       · refine Pl.bP (v:=.bool false) (fun X=>BP c5 X) trivial rfl rfl rfl rfl rfl rfl ?_
         refine Pl.aG trivial rfl ?_
         refine Pl.aj ?_
         repeat refine Pl.af ?_
         exact Pl.aZ rfl rfl  (⟨by rw [decide_eq_false (show ¬ ((z=0∧ee=0∨z%2=1) ∧ -100000≤ee∧ee≤100000) by have hl1:=@kC z.natAbs;omega)],(Pl.Ex.trans hE1 hE2)⟩)
     · refine Pl.bP (v:=.bool false) (fun X=>jm c4 X) trivial rfl rfl rfl rfl rfl rfl ?_
       refine Pl.aG trivial rfl ?_
       refine Pl.aj ?_
       repeat refine Pl.af ?_
       exact Pl.aZ rfl rfl  (⟨by rw [decide_eq_false (show ¬ ((z=0∧ee=0∨z%2=1) ∧ -100000≤ee∧ee≤100000) by have hl1:=@kC z.natAbs;omega)],(Pl.Ex.trans hE1 hE2)⟩)
   · refine Pl.bP (v:=.bool false) (fun X=>Pl.gW (Pl.e_f (by omega)) X) trivial rfl rfl rfl rfl rfl rfl ?_
     refine Pl.aG trivial rfl ?_
     refine Pl.aj ?_
     repeat refine Pl.af ?_
     exact Pl.aZ rfl rfl  (⟨by rw [decide_eq_false (show ¬ ((z=0∧ee=0∨z%2=1) ∧ -100000≤ee∧ee≤100000) by have hl1:=@kC z.natAbs;omega)],(Pl.Ex.trans hE1 hE2)⟩)
theorem nC (w:World) (b:Bool) (A:Option Addr) (c:Nat) (xs:List Nat) (D:Option Addr) (d:Nat) (ys:List Nat) (hu:U w (.slice A xs.length c) xs) (hv:U w (.slice D ys.length d) ys) (k:Nat) (hk:k≤90) :
  Calls Tryz.prog 37 #[.agg #[.bool b,.slice A xs.length c,.slice D ys.length d],.int .i64 ((k:Nat):Int)] w fun e w'=>∃ u,e = .returned u∧Qn w' u (uO b xs ys k) k (k+1)∧Pl.Ex w w':=by
 refine Pl.aN (n:=21) (vs:=[.agg #[.bool b,.slice A xs.length c,.slice D ys.length d],.int .i64 ((k:Nat):Int)]) Tryz.func37 rfl (by kernel_rfl) (by simp) ?_
 repeat refine Pl.af ?_
 refine Pl.ah (by kernel_rfl) ?_
 refine Pl.bF (cs:=[.bool b,.slice A xs.length c,.slice D ys.length d]) rfl rfl rfl rfl rfl rfl (fun Y hY=>trivial) ?_
 intro N1 w1 hE1 bT ak
 have dP:=Pl.Cb.lt ak
 have jC:=Pl.Ex.size hE1
 refine Pl.bK (z:=.agg #[.bool false,.slice none 0 0,.slice none 0 0]) (by kernel_rfl) rfl rfl rfl rfl (fun Y hY=>trivial) ?_
 intro N2 w2 hE2 dU aA
 have iq:=Pl.Cb.lt aA
 have jM:=Pl.Ex.size hE2
 replace aA:Pl.Cb w2 N2 41 [.bool false,.slice none 0 0,.slice none 0 0]:=aA
 refine Pl.aj ?_
 repeat refine Pl.af ?_
 refine Pl.ah (by kernel_rfl) ?_
 refine Pl.aL (.pointer (some ⟨N1,2,none⟩)) trivial rfl rfl rfl rfl (fun X=>by kernel_rfl) ?_
 refine Pl.bD (v:=.slice D ys.length d) Tryz.underlying22 rfl (Pl.Cb.at (j:=2) (Pl.Cb.ex ak hE2) rfl) trivial rfl rfl rfl rfl rfl ?_
 refine Pl.aG trivial rfl ?_
 refine Pl.ay rfl rfl rfl rfl rfl (fun u X=>Pl.enters Tryz.func63 (by kernel_rfl) rfl u X) ?_
 refine Calls.mono (uY _ _ ys _ (U.below hv (Pl.Ex.trans hE1 hE2)) (by omega) (by omega) (dM ys k) (by rw [Int.toNat_natCast])) ?_
 rintro e w3 ⟨v3,rfl,hv3,aJ⟩
 have jX:=Pl.Ex.size aJ
 refine ⟨_,rfl,trivial,?_⟩
 refine Pl.aG trivial rfl ?_
 refine Pl.aj ?_
 repeat refine Pl.af ?_
 refine Pl.ah (by kernel_rfl) ?_
 refine Pl.aG trivial rfl ?_
 obtain ⟨A4,c5,rfl⟩:=Un.WI hv3
 refine Pl.su Tryz.underlying22 trivial rfl rfl rfl rfl rfl ?_
 by_cases c6:((limbs (dM ys k)).length)=0
 · refine Pl.bP (v:=.bool true) (fun X=>Pl.gW (Pl.e_t (by omega)) X) trivial rfl rfl rfl rfl rfl rfl ?_
   refine Pl.aj ?_
   repeat refine Pl.af ?_
   refine Pl.fP rfl ?_
   repeat refine Pl.af ?_
   refine Pl.ah (by kernel_rfl) ?_
   refine Pl.ze (e := 67) (n:=1) [.int .u32 1] rfl rfl rfl rfl (by kernel_rfl) (fun Y hY=>trivial) ?_
   intro N7 w4 aP VE mQ
   have Zf:=Pl.Cb.lt mQ
   have kY:=Pl.Ex.size aP
   refine Pl.aG trivial rfl ?_
   refine Pl.aj ?_
   repeat refine Pl.af ?_
   refine Pl.ah (by kernel_rfl) ?_
   refine Pl.aL (.pointer (some ⟨N1,0,none⟩)) trivial rfl rfl rfl rfl (fun X=>by kernel_rfl) ?_
   refine Pl.bg (part:=[.bool b,.slice A xs.length c]) (Pl.Cb.ex ak (Pl.Ex.trans hE2 (Pl.Ex.trans aJ aP))) rfl Tryz.underlying24 rfl (by kernel_rfl) trivial rfl rfl rfl rfl rfl ?_
   refine Pl.aG trivial rfl ?_
   refine Pl.ay rfl rfl rfl rfl rfl (fun u X=>Pl.enters Tryz.func16 (by kernel_rfl) rfl u X) ?_
   refine Calls.mono (l6 _ _ _ _ (Ri.below (⟨A,c,rfl,hu⟩:Ri w _ b xs) (Pl.Ex.trans hE1 (Pl.Ex.trans hE2 (Pl.Ex.trans aJ aP)))) k _ rfl (by omega) _ rfl) ?_
   rintro e w5 ⟨v8,rfl,hv8,aW⟩
   obtain ⟨A9,c10,rfl,u11⟩:=hv8
   have mI:=Pl.Ex.size aW
   refine ⟨_,rfl,trivial,?_⟩
   refine Pl.aG trivial rfl ?_
   have hl12:=Un.one (x:=1) (Pl.Cb.ex mQ aW) rfl (by omega)
   refine Pl.ay rfl rfl rfl rfl rfl (fun u X=>Pl.enters Tryz.func84 (by kernel_rfl) rfl u X) ?_
   refine Calls.mono (bC _ _ 1 hl12) ?_
   rintro e w6 ⟨v13,rfl,WL,bO⟩
   obtain ⟨rD,c15,rfl,u16⟩:=WL
   have rC:=Pl.Ex.size bO
   refine ⟨_,rfl,trivial,?_⟩
   refine Pl.ay rfl rfl rfl rfl rfl (fun u X=>Pl.enters Tryz.func83 (by kernel_rfl) rfl u X) ?_
   refine Calls.mono (gJ _ _ _ (sg b (dM xs k)) ((1:Nat):Int) _ (Zn.of (Un.below u11 bO)) (Zn.of u16) k (k+1) (nA hu k) (Sz.le (Sn.sz (Sn.of (K:=1) (by omega))) (by omega)) (by omega) (by omega) (by decide) rfl) ?_
   rintro e w7 ⟨v17,rfl,WM,cB⟩
   obtain ⟨WN,c19,S9,c21,rfl,u22,u23,WO,WQ⟩:=WM
   have wm:=Pl.Ex.size cB
   refine ⟨_,rfl,trivial,?_⟩
   refine Pl.bz (new:=[.bool (decide ((Rat.num (Rat.divInt (sg b (dM xs k)) ((1:Nat):Int)))<0)),.slice WN (limbs (Int.natAbs (Rat.num (Rat.divInt (sg b (dM xs k)) ((1:Nat):Int))))).length c19,.slice S9 (limbs (Rat.den (Rat.divInt (sg b (dM xs k)) ((1:Nat):Int)))).length c21]) (Pl.Cb.ex aA (Pl.Ex.trans aJ (Pl.Ex.trans aP (Pl.Ex.trans aW (Pl.Ex.trans bO cB))))) (by kernel_rfl) rfl (by simp [Value.oneCell']) rfl rfl rfl rfl rfl rfl (fun Y hY=>trivial) ?_
   intro w8 iL bf
   have iX:=Pl.Ex.xs (Pl.Ex.trans hE2 (Pl.Ex.trans aJ (Pl.Ex.trans aP (Pl.Ex.trans aW (Pl.Ex.trans bO cB))))) iL (by omega)
   have EW:=Pl.Xs.size iL
   have BA:=Pl.Cb.xs (Pl.Cb.ex mQ (Pl.Ex.trans aW (Pl.Ex.trans bO cB))) iL (by simp;omega)
   refine Pl.aj ?_
   have k25:=Un.xs u22 iL (Pl.Cb.ex aA (Pl.Ex.trans aJ (Pl.Ex.trans aP (Pl.Ex.trans aW (Pl.Ex.trans bO cB))))) (by simp)
   have k26:=Un.xs u23 iL (Pl.Cb.ex aA (Pl.Ex.trans aJ (Pl.Ex.trans aP (Pl.Ex.trans aW (Pl.Ex.trans bO cB))))) (by simp)
   repeat refine Pl.af ?_
   exact Pl.aV rfl rfl bf Tryz.underlying41 rfl (by kernel_rfl) (⟨_,rfl,by unfold uO;rw [if_pos c6];exact (Qn.mk k25 k26 WO WQ),(Pl.Ex.trans hE1 iX)⟩)
 · refine Pl.bP (v:=.bool false) (fun X=>Pl.gW (Pl.e_f (by omega)) X) trivial rfl rfl rfl rfl rfl rfl ?_
   refine Pl.aj ?_
   repeat refine Pl.af ?_
   refine Pl.dH rfl ?_
   repeat refine Pl.af ?_
   refine Pl.fG ?_
   repeat refine Pl.af ?_
   refine Pl.ah (by kernel_rfl) ?_
   refine Pl.aL (.pointer (some ⟨N1,0,none⟩)) trivial rfl rfl rfl rfl (fun X=>by kernel_rfl) ?_
   refine Pl.bg (part:=[.bool b,.slice A xs.length c]) (Pl.Cb.ex ak (Pl.Ex.trans hE2 aJ)) rfl Tryz.underlying24 rfl (by kernel_rfl) trivial rfl rfl rfl rfl rfl ?_
   refine Pl.aG trivial rfl ?_
   refine Pl.ay rfl rfl rfl rfl rfl (fun u X=>Pl.enters Tryz.func16 (by kernel_rfl) rfl u X) ?_
   refine Calls.mono (l6 _ _ _ _ (Ri.below (⟨A,c,rfl,hu⟩:Ri w _ b xs) (Pl.Ex.trans hE1 (Pl.Ex.trans hE2 aJ))) k _ rfl (by omega) _ rfl) ?_
   rintro e w4 ⟨v7,rfl,hv7,aP⟩
   obtain ⟨A8,c9,rfl,zK⟩:=hv7
   have kY:=Pl.Ex.size aP
   refine ⟨_,rfl,trivial,?_⟩
   refine Pl.aG trivial rfl ?_
   refine Pl.ay rfl rfl rfl rfl rfl (fun u X=>Pl.enters Tryz.func84 (by kernel_rfl) rfl u X) ?_
   refine Calls.mono (bC _ _ (dM ys k) (Un.below hv3 aP)) ?_
   rintro e w5 ⟨v11,rfl,jN,aW⟩
   obtain ⟨JL,c13,rfl,Ox⟩:=jN
   have mI:=Pl.Ex.size aW
   refine ⟨_,rfl,trivial,?_⟩
   refine Pl.ay rfl rfl rfl rfl rfl (fun u X=>Pl.enters Tryz.func83 (by kernel_rfl) rfl u X) ?_
   refine Calls.mono (gJ _ _ _ (sg b (dM xs k)) (((dM ys k):Nat):Int) _ (Zn.of (Un.below zK aW)) (Zn.of Ox) k (k+1) (nA hu k) (Sz.le (Sn.sz (kX ys k hv.lim)) (by omega)) (by omega) (by omega) (by have h9:=@kC (dM ys k);omega) rfl) ?_
   rintro e w6 ⟨v15,rfl,WR,bO⟩
   obtain ⟨A16,c17,WN,c19,rfl,u20,u21,WS,WT⟩:=WR
   have rC:=Pl.Ex.size bO
   refine ⟨_,rfl,trivial,?_⟩
   refine Pl.bz (new:=[.bool (decide ((Rat.num (Rat.divInt (sg b (dM xs k)) (((dM ys k):Nat):Int)))<0)),.slice A16 (limbs (Int.natAbs (Rat.num (Rat.divInt (sg b (dM xs k)) (((dM ys k):Nat):Int))))).length c17,.slice WN (limbs (Rat.den (Rat.divInt (sg b (dM xs k)) (((dM ys k):Nat):Int)))).length c19]) (Pl.Cb.ex aA (Pl.Ex.trans aJ (Pl.Ex.trans aP (Pl.Ex.trans aW bO)))) (by kernel_rfl) rfl (by simp [Value.oneCell']) rfl rfl rfl rfl rfl rfl (fun Y hY=>trivial) ?_
   intro w7 iM bf
   have cB:=Pl.Ex.xs (Pl.Ex.trans hE2 (Pl.Ex.trans aJ (Pl.Ex.trans aP (Pl.Ex.trans aW bO)))) iM (by omega)
   have wm:=Pl.Xs.size iM
   refine Pl.aj ?_
   have k23:=Un.xs u20 iM (Pl.Cb.ex aA (Pl.Ex.trans aJ (Pl.Ex.trans aP (Pl.Ex.trans aW bO)))) (by simp)
   have k24:=Un.xs u21 iM (Pl.Cb.ex aA (Pl.Ex.trans aJ (Pl.Ex.trans aP (Pl.Ex.trans aW bO)))) (by simp)
   repeat refine Pl.af ?_
   exact Pl.aV rfl rfl bf Tryz.underlying41 rfl (by kernel_rfl) (⟨_,rfl,by unfold uO;rw [if_neg c6];exact (Qn.mk k23 k24 WS WT),(Pl.Ex.trans hE1 cB)⟩)
end Go.Proofs.YtdpmbgomcjnohaaGreatDoor
namespace Go.Proofs.YtdpmbgomcjnohaaGreatDoor
open Go.RowKit 
set_option linter.all false
set_option maxRecDepth 100000
set_option maxHeartbeats 8000000
theorem Ac {P:Program} {T:TypeId} {x y:Operand} {a b c:Int} (h:a-b=c) (hc : -9223372036854775808≤c∧c≤9223372036854775807) (X:World):Pl.Bn P .sub T x y (.int .i64 a) (.int .i64 b) X = .ok (.int .i64 c) X:=by
 subst h;exact jH hc X
end Go.Proofs.YtdpmbgomcjnohaaGreatDoor
namespace Go.Proofs.YtdpmbgomcjnohaaGreatDoor.Rf
open Go Go.RowKit Go.Proofs.YtdpmbgomcjnohaaGreatDoor.Pl
set_option linter.all false
set_option maxRecDepth 100000
set_option maxHeartbeats 8000000
theorem sP {w:World} {v:Value} {x:Rat} {L:Nat} {lo hi:Int} (h:Dn w v x L lo hi) (hL:L≤65536) (h1 : -100000≤lo) (h2:hi≤100000):Calls Tryz.prog 14 #[v] w fun e w'=>e = .returned (.bool true)∧Ex w w':=by
 obtain ⟨m,e,A,c,rfl,u,d⟩:=h
 have h3:=d.lo
 have h4:=d.hi
 have:=pM w A c m e u (Sz.le d.sz hL)
 rwa [decide_eq_true (show (m=0∧e=0∨m%2=1) ∧ -100000≤e∧e≤100000 from ⟨d.can,by omega,by omega⟩)] at this
end Go.Proofs.YtdpmbgomcjnohaaGreatDoor.Rf
namespace Go.Proofs.YtdpmbgomcjnohaaGreatDoor
open Go.RowKit Rf
set_option linter.all false
set_option maxRecDepth 100000
set_option maxHeartbeats 8000000
theorem xw {m e lo hi n:Int} {q:Rat} {L j:Nat} (d:Dd m e (Dy.cut j q n) L lo hi) (h:(limbs m.natAbs).length>0):¬ e < -n:=by
 have h1:=Dy.TQ d.can d.val (fun h9=>by rw [h9] at h;rw [show (0:Int).natAbs=0 from rfl,aX] at h;exact absurd h (by decide))
 omega
theorem E9 (e:Int):Dy.dv 1 e=2^e:=by unfold Dy.dv;exact Rat.one_mul _
theorem Hr9x {x y:Rat} {k:Int} (h:ET x y k) (g:x≤y):k≤0:=by
 obtain ⟨_,_,_,_,h3⟩:=h
 rcases Int.lt_or_le 0 k with h4 | h4
 · exact absurd (h3.1 h4) (Rat.not_lt.2 g)
 · exact h4
theorem VH {x y:Rat} {k:Int} (h:ET x y k) (g:y≤x):k≥0:=by
 obtain ⟨_,_,h1,_,_⟩:=h
 rcases Int.lt_or_le k 0 with h4 | h4
 · exact absurd (h1.1 h4) (Rat.not_lt.2 g)
 · exact h4
theorem BM9x (v:Rat) (n:Int):v<Dy.cut 0 v n+Dy.dv 1 (-n):=by rw [E9];exact (Dy.yE v n).2
theorem Ed (v:Rat) (n:Int):Dy.cut 1 v n-Dy.dv 1 (-n)<v:=by rw [E9];exact (Dy.vB v n).2
theorem Zm (v:Rat) (n:Int):(v-Dy.cut 4 v n)+(v-Dy.cut 4 v n)≤Dy.dv 1 (-n):=by rw [E9];have:=(Dy.vC v n).2.1;grind
theorem Zo (v:Rat) (n:Int) : -(v-Dy.cut 4 v n) + -(v-Dy.cut 4 v n)≤Dy.dv 1 (-n):=by rw [E9];have:=(Dy.vC v n).2.2;grind
theorem TU {v:Rat} {n:Int} (h:¬ Dy.cut 4 v n=Dy.cut 0 v n):Dy.cut 4 v n=Dy.cut 1 v n:=(Dy.vC v n).1.resolve_left h
theorem BZ (w:World) (hg:Gt w) (JO:Bool) (Av:Option Addr) (cv:Nat) (BC:List Nat) (Dv:Option Addr) (dv:Nat) (BF:List Nat) (huv:U w (.slice Av BC.length cv) BC) (hvv:U w (.slice Dv BF.length dv) BF) (WY:Nat) (acd:WY<65536) :
  Calls Tryz.prog 8 #[.agg #[.bool JO,.slice Av BC.length cv,.slice Dv BF.length dv],.int .u16 ((WY:Nat):Int)] w fun e w'=>e = .returned (.bool true)∧Pl.Ex w w':=by
 obtain ⟨v,Zg⟩:∃ z,uO JO BC BF 8=z:=⟨_,rfl⟩
 obtain ⟨n9,Yz⟩:∃ n:Int,((WY%401:Nat):Int)-200=n:=⟨_,rfl⟩
 have bn9 : -200≤n9∧n9≤200:=by omega
 refine Rf.bQ (n:=158) [.a [.v (.bool JO),.v (.slice Av BC.length cv),.v (.slice Dv BF.length dv)],.v (.int .u16 ((WY:Nat):Int))] [] [] Tryz.func8 rfl (by kernel_rfl) rfl rfl trivial ?_
 repeat refine Rf.aa ?_
 refine Rf.az (by kernel_rfl) ?_
 refine Rf.aD aK 0 rfl ?_
 refine Rf.aI ?_
 repeat refine Rf.aa ?_
 refine Rf.az (by kernel_rfl) ?_
 refine Rf.fA 0 _ _ rfl rfl rfl rfl rfl rfl (fun u X=>Pl.enters Tryz.func12 (by kernel_rfl) rfl u X) (fun α γ w h=>Dx 0 (qM _ (hg.ext h.ex))) ?_
 refine Rf.aD aK 1 rfl ?_
 refine Rf.aI ?_
 repeat refine Rf.aa ?_
 refine Rf.az (by kernel_rfl) ?_
 refine Rf.aD aK 1 rfl ?_
 refine Rf.fA 1 (l7 v 8 9) (.a [.c 1 0,.c 1 1,.c 1 2]) rfl rfl rfl rfl rfl rfl (fun u X=>Pl.enters Tryz.func37 (by kernel_rfl) rfl u X) (fun α γ w h=>by rw [← Zg];exact eZ 1 (nC _ _ _ _ _ _ _ _ (U.below huv h.ex) (U.below hvv h.ex) 8 (by decide))) ?_
 refine Rf.aD aK 1 rfl ?_
 refine Rf.Zk ((WY:Nat):Int) Tryz.underlying3 (by kernel_rfl) (Pl.Oy (by omega) (by omega)) rfl rfl rfl rfl rfl ?_
 refine Rf.iw (v:=.int .i64 (((WY%401):Nat):Int)) (j5 (a:=WY) (b:=401) (by omega) (by omega)) rfl rfl rfl rfl rfl rfl ?_
 refine Rf.iw (v:=.int .i64 n9) (fun X=>Ac Yz (by omega) X) rfl rfl rfl rfl rfl rfl ?_
 clear Yz acd
 refine Rf.aD aK 1 rfl ?_
 refine Rf.aI ?_
 repeat refine Rf.aa ?_
 refine Rf.az (by kernel_rfl) ?_
 refine Rf.Ee (.a [.v (.bool false),.v (.slice none 0 0),.v (.int .i64 0),.v (.bool false),.v (.slice none 0 0),.v (.int .i64 0),.v (.bool false),.v (.slice none 0 0),.v (.int .i64 0),.v (.bool false),.v (.slice none 0 0),.v (.int .i64 0),.v (.bool false),.v (.slice none 0 0),.v (.int .i64 0)]) rfl rfl rfl (fun _ _=>rfl) (fun α γ X=>by kernel_rfl) ?_
 refine Rf.aD aK 2 rfl ?_
 refine Rf.aI ?_
 repeat refine Rf.aa ?_
 refine Rf.az (by kernel_rfl) ?_
 refine Rf.aD aK 3 rfl ?_
 refine Rf.aI ?_
 repeat refine Rf.aa ?_
 refine Rf.qi ?_
 refine Rf.Nv 5 ?_
 refine Rf.Hu ?_
 repeat refine Rf.aa ?_
 refine Rf.az (by kernel_rfl) ?_
 refine Rf.aD aK 3 rfl ?_
 refine Rf.iw (v:=.bool true) (fun X=>kZ (by decide) X) rfl rfl rfl rfl rfl rfl ?_
 refine Rf.aI ?_
 repeat refine Rf.aa ?_
 refine Rf.eU rfl ?_
 repeat refine Rf.aa ?_
 refine Rf.dZ ?_
 repeat refine Rf.aa ?_
 refine Rf.qi ?_
 repeat refine Rf.aa ?_
 refine Rf.az (by kernel_rfl) ?_
 refine Rf.aD aK 3 rfl ?_
 refine Rf.fA 2 _ _ rfl rfl rfl rfl rfl rfl (fun u X=>Pl.enters Tryz.func39 (by kernel_rfl) rfl u X) (fun α γ w h=>mK 2 (fV _ (hg.ext h.ex) _ v n9 0 (by decide) 8 9 7 (h.r 1 rfl) (by decide) (by omega) (-200) 712 (by omega) (by omega) (by decide) (by decide))) ?_
 refine Rf.aD aK 3 rfl ?_
 refine Rf.aI ?_
 repeat refine Rf.aa ?_
 repeat refine Rf.aa ?_
 refine Rf.vD [(4,.v (.bool false)),(5,.v (.bool true)),(6,.p 1 0),(7,.v (.int .i64 n9)),(8,.p 2 0),(9,.v (.int .i64 0)),(10,.p 3 0),(11,.v (.int .i64 0)),(27,.v (.int .i64 0)),(28,.v (.bool true)),(31,.t [.a [.c 2 0,.c 2 1,.c 2 2],.v (.int .i64 0)]),(32,.a [.c 1 0,.c 1 1,.c 1 2]),(33,.v (.int .i64 n9)),(34,.v (.int .i64 0)),(35,.t [.a [.c 2 0,.c 2 1,.c 2 2],.v (.int .i64 0)]),(36,.a [.c 2 0,.c 2 1,.c 2 2]),(37,.v (.int .i64 0)),(58,.v (.bool false))] [(1,41,[.c 1 0,.c 1 1,.c 1 2]),(2,62,[.v (.bool false),.v (.slice none 0 0),.v (.int .i64 0),.v (.bool false),.v (.slice none 0 0),.v (.int .i64 0),.v (.bool false),.v (.slice none 0 0),.v (.int .i64 0),.v (.bool false),.v (.slice none 0 0),.v (.int .i64 0),.v (.bool false),.v (.slice none 0 0),.v (.int .i64 0)]),(3,26,[.c 2 0,.c 2 1,.c 2 2])] [(1,(l7 v 8 9).S),(2,(oq (Dy.cut 0 v n9) 16 (-200) 712).S)] ?_ ?_
 · repeat refine Rf.aa ?_
   refine Rf.eP rfl ?_
   repeat refine Rf.aa ?_
   refine Rf.dZ ?_
   repeat refine Rf.aa ?_
   refine Rf.az (by kernel_rfl) ?_
   refine Rf.aD aK 4 rfl ?_
   refine Rf.mX (j:=0) (q':=0) (s:=3) Tryz.underlying62 (by kernel_rfl) rfl (by decide) rfl rfl rfl rfl rfl rfl rfl ?_
   refine Rf.aD aK 4 rfl ?_
   refine Rf.aI ?_
   repeat refine Rf.aa ?_
   refine Rf.mM ?_
   repeat refine Rf.aa ?_
   refine Rf.az (by kernel_rfl) ?_
   refine Rf.aD aK 4 rfl ?_
   refine Rf.iw (v:=.int .i64 1) (iG (a:=0) (b:=1) (by omega)) rfl rfl rfl rfl rfl rfl ?_
   refine Rf.aD aK 4 rfl ?_
   refine Rf.aI ?_
   repeat refine Rf.aa ?_
   refine Rf.xh ?_
   refine Rf.Hu ?_
   repeat refine Rf.aa ?_
   refine Rf.az (by kernel_rfl) ?_
   refine Rf.aD aK 4 rfl ?_
   refine Rf.iw (v:=.bool true) (fun X=>kZ (by decide) X) rfl rfl rfl rfl rfl rfl ?_
   refine Rf.aI ?_
   repeat refine Rf.aa ?_
   refine Rf.eU rfl ?_
   repeat refine Rf.aa ?_
   refine Rf.dZ ?_
   repeat refine Rf.aa ?_
   refine Rf.qi ?_
   repeat refine Rf.aa ?_
   refine Rf.az (by kernel_rfl) ?_
   refine Rf.aD aK 4 rfl ?_
   refine Rf.fA 3 _ _ rfl rfl rfl rfl rfl rfl (fun u X=>Pl.enters Tryz.func39 (by kernel_rfl) rfl u X) (fun α γ w h=>mK 3 (fV _ (hg.ext h.ex) _ v n9 1 (by decide) 8 9 7 (h.r 1 rfl) (by decide) (by omega) (-200) 712 (by omega) (by omega) (by decide) (by decide))) ?_
   refine Rf.aD aK 4 rfl ?_
   refine Rf.aI ?_
   repeat refine Rf.aa ?_
   repeat refine Rf.aa ?_
   refine Rf.vD [(4,.v (.bool false)),(5,.v (.bool true)),(6,.p 1 0),(7,.v (.int .i64 n9)),(8,.p 2 0),(9,.v (.int .i64 1)),(10,.p 4 0),(11,.v (.int .i64 0)),(27,.v (.int .i64 1)),(28,.v (.bool true)),(29,.v (.int .i64 0)),(30,.v (.int .i64 1)),(31,.t [.a [.c 3 0,.c 3 1,.c 3 2],.v (.int .i64 0)]),(32,.a [.c 1 0,.c 1 1,.c 1 2]),(33,.v (.int .i64 n9)),(34,.v (.int .i64 1)),(35,.t [.a [.c 3 0,.c 3 1,.c 3 2],.v (.int .i64 0)]),(36,.a [.c 3 0,.c 3 1,.c 3 2]),(37,.v (.int .i64 0)),(58,.v (.bool false)),(59,.v (.int .i64 0)),(60,.a [.c 2 0,.c 2 1,.c 2 2]),(61,.p 2 0)] [(1,41,[.c 1 0,.c 1 1,.c 1 2]),(2,62,[.c 2 0,.c 2 1,.c 2 2,.v (.bool false),.v (.slice none 0 0),.v (.int .i64 0),.v (.bool false),.v (.slice none 0 0),.v (.int .i64 0),.v (.bool false),.v (.slice none 0 0),.v (.int .i64 0),.v (.bool false),.v (.slice none 0 0),.v (.int .i64 0)]),(4,26,[.c 3 0,.c 3 1,.c 3 2])] [(1,(l7 v 8 9).S),(2,(oq (Dy.cut 0 v n9) 16 (-200) 712).S),(3,(oq (Dy.cut 1 v n9) 16 (-200) 712).S)] ?_ ?_
   · repeat refine Rf.aa ?_
     refine Rf.eP rfl ?_
     repeat refine Rf.aa ?_
     refine Rf.dZ ?_
     repeat refine Rf.aa ?_
     refine Rf.az (by kernel_rfl) ?_
     refine Rf.aD aK 5 rfl ?_
     refine Rf.mX (j:=1) (q':=3) (s:=3) Tryz.underlying62 (by kernel_rfl) rfl (by decide) rfl rfl rfl rfl rfl rfl rfl ?_
     refine Rf.aD aK 5 rfl ?_
     refine Rf.aI ?_
     repeat refine Rf.aa ?_
     refine Rf.mM ?_
     repeat refine Rf.aa ?_
     refine Rf.az (by kernel_rfl) ?_
     refine Rf.aD aK 5 rfl ?_
     refine Rf.iw (v:=.int .i64 2) (iG (a:=1) (b:=1) (by omega)) rfl rfl rfl rfl rfl rfl ?_
     refine Rf.aD aK 5 rfl ?_
     refine Rf.aI ?_
     repeat refine Rf.aa ?_
     refine Rf.xh ?_
     refine Rf.Hu ?_
     repeat refine Rf.aa ?_
     refine Rf.az (by kernel_rfl) ?_
     refine Rf.aD aK 5 rfl ?_
     refine Rf.iw (v:=.bool true) (fun X=>kZ (by decide) X) rfl rfl rfl rfl rfl rfl ?_
     refine Rf.aI ?_
     repeat refine Rf.aa ?_
     refine Rf.eU rfl ?_
     repeat refine Rf.aa ?_
     refine Rf.dZ ?_
     repeat refine Rf.aa ?_
     refine Rf.qi ?_
     repeat refine Rf.aa ?_
     refine Rf.az (by kernel_rfl) ?_
     refine Rf.aD aK 5 rfl ?_
     refine Rf.fA 4 _ _ rfl rfl rfl rfl rfl rfl (fun u X=>Pl.enters Tryz.func39 (by kernel_rfl) rfl u X) (fun α γ w h=>mK 4 (fV _ (hg.ext h.ex) _ v n9 2 (by decide) 8 9 7 (h.r 1 rfl) (by decide) (by omega) (-200) 712 (by omega) (by omega) (by decide) (by decide))) ?_
     refine Rf.aD aK 5 rfl ?_
     refine Rf.aI ?_
     repeat refine Rf.aa ?_
     repeat refine Rf.aa ?_
     refine Rf.vD [(4,.v (.bool false)),(5,.v (.bool true)),(6,.p 1 0),(7,.v (.int .i64 n9)),(8,.p 2 0),(9,.v (.int .i64 2)),(10,.p 5 0),(11,.v (.int .i64 0)),(27,.v (.int .i64 2)),(28,.v (.bool true)),(29,.v (.int .i64 1)),(30,.v (.int .i64 2)),(31,.t [.a [.c 4 0,.c 4 1,.c 4 2],.v (.int .i64 0)]),(32,.a [.c 1 0,.c 1 1,.c 1 2]),(33,.v (.int .i64 n9)),(34,.v (.int .i64 2)),(35,.t [.a [.c 4 0,.c 4 1,.c 4 2],.v (.int .i64 0)]),(36,.a [.c 4 0,.c 4 1,.c 4 2]),(37,.v (.int .i64 0)),(58,.v (.bool false)),(59,.v (.int .i64 1)),(60,.a [.c 3 0,.c 3 1,.c 3 2]),(61,.p 2 3)] [(1,41,[.c 1 0,.c 1 1,.c 1 2]),(2,62,[.c 2 0,.c 2 1,.c 2 2,.c 3 0,.c 3 1,.c 3 2,.v (.bool false),.v (.slice none 0 0),.v (.int .i64 0),.v (.bool false),.v (.slice none 0 0),.v (.int .i64 0),.v (.bool false),.v (.slice none 0 0),.v (.int .i64 0)]),(5,26,[.c 4 0,.c 4 1,.c 4 2])] [(1,(l7 v 8 9).S),(2,(oq (Dy.cut 0 v n9) 16 (-200) 712).S),(3,(oq (Dy.cut 1 v n9) 16 (-200) 712).S),(4,(oq (Dy.cut 2 v n9) 16 (-200) 712).S)] ?_ ?_
     · repeat refine Rf.aa ?_
       refine Rf.eP rfl ?_
       repeat refine Rf.aa ?_
       refine Rf.dZ ?_
       repeat refine Rf.aa ?_
       refine Rf.az (by kernel_rfl) ?_
       refine Rf.aD aK 6 rfl ?_
       refine Rf.mX (j:=2) (q':=6) (s:=3) Tryz.underlying62 (by kernel_rfl) rfl (by decide) rfl rfl rfl rfl rfl rfl rfl ?_
       refine Rf.aD aK 6 rfl ?_
       refine Rf.aI ?_
       repeat refine Rf.aa ?_
       refine Rf.mM ?_
       repeat refine Rf.aa ?_
       refine Rf.az (by kernel_rfl) ?_
       refine Rf.aD aK 6 rfl ?_
       refine Rf.iw (v:=.int .i64 3) (iG (a:=2) (b:=1) (by omega)) rfl rfl rfl rfl rfl rfl ?_
       refine Rf.aD aK 6 rfl ?_
       refine Rf.aI ?_
       repeat refine Rf.aa ?_
       refine Rf.xh ?_
       refine Rf.Hu ?_
       repeat refine Rf.aa ?_
       refine Rf.az (by kernel_rfl) ?_
       refine Rf.aD aK 6 rfl ?_
       refine Rf.iw (v:=.bool true) (fun X=>kZ (by decide) X) rfl rfl rfl rfl rfl rfl ?_
       refine Rf.aI ?_
       repeat refine Rf.aa ?_
       refine Rf.eU rfl ?_
       repeat refine Rf.aa ?_
       refine Rf.dZ ?_
       repeat refine Rf.aa ?_
       refine Rf.qi ?_
       repeat refine Rf.aa ?_
       refine Rf.az (by kernel_rfl) ?_
       refine Rf.aD aK 6 rfl ?_
       refine Rf.fA 5 _ _ rfl rfl rfl rfl rfl rfl (fun u X=>Pl.enters Tryz.func39 (by kernel_rfl) rfl u X) (fun α γ w h=>mK 5 (fV _ (hg.ext h.ex) _ v n9 3 (by decide) 8 9 7 (h.r 1 rfl) (by decide) (by omega) (-200) 712 (by omega) (by omega) (by decide) (by decide))) ?_
       refine Rf.aD aK 6 rfl ?_
       refine Rf.aI ?_
       repeat refine Rf.aa ?_
       repeat refine Rf.aa ?_
       refine Rf.vD [(4,.v (.bool false)),(5,.v (.bool true)),(6,.p 1 0),(7,.v (.int .i64 n9)),(8,.p 2 0),(9,.v (.int .i64 3)),(10,.p 6 0),(11,.v (.int .i64 0)),(27,.v (.int .i64 3)),(28,.v (.bool true)),(29,.v (.int .i64 2)),(30,.v (.int .i64 3)),(31,.t [.a [.c 5 0,.c 5 1,.c 5 2],.v (.int .i64 0)]),(32,.a [.c 1 0,.c 1 1,.c 1 2]),(33,.v (.int .i64 n9)),(34,.v (.int .i64 3)),(35,.t [.a [.c 5 0,.c 5 1,.c 5 2],.v (.int .i64 0)]),(36,.a [.c 5 0,.c 5 1,.c 5 2]),(37,.v (.int .i64 0)),(58,.v (.bool false)),(59,.v (.int .i64 2)),(60,.a [.c 4 0,.c 4 1,.c 4 2]),(61,.p 2 6)] [(1,41,[.c 1 0,.c 1 1,.c 1 2]),(2,62,[.c 2 0,.c 2 1,.c 2 2,.c 3 0,.c 3 1,.c 3 2,.c 4 0,.c 4 1,.c 4 2,.v (.bool false),.v (.slice none 0 0),.v (.int .i64 0),.v (.bool false),.v (.slice none 0 0),.v (.int .i64 0)]),(6,26,[.c 5 0,.c 5 1,.c 5 2])] [(1,(l7 v 8 9).S),(2,(oq (Dy.cut 0 v n9) 16 (-200) 712).S),(3,(oq (Dy.cut 1 v n9) 16 (-200) 712).S),(4,(oq (Dy.cut 2 v n9) 16 (-200) 712).S),(5,(oq (Dy.cut 3 v n9) 16 (-200) 712).S)] ?_ ?_
       · repeat refine Rf.aa ?_
         refine Rf.eP rfl ?_
         repeat refine Rf.aa ?_
         refine Rf.dZ ?_
         repeat refine Rf.aa ?_
         refine Rf.az (by kernel_rfl) ?_
         refine Rf.aD aK 7 rfl ?_
         refine Rf.mX (j:=3) (q':=9) (s:=3) Tryz.underlying62 (by kernel_rfl) rfl (by decide) rfl rfl rfl rfl rfl rfl rfl ?_
         refine Rf.aD aK 7 rfl ?_
         refine Rf.aI ?_
         repeat refine Rf.aa ?_
         refine Rf.mM ?_
         repeat refine Rf.aa ?_
         refine Rf.az (by kernel_rfl) ?_
         refine Rf.aD aK 7 rfl ?_
         refine Rf.iw (v:=.int .i64 4) (iG (a:=3) (b:=1) (by omega)) rfl rfl rfl rfl rfl rfl ?_
         refine Rf.aD aK 7 rfl ?_
         refine Rf.aI ?_
         repeat refine Rf.aa ?_
         refine Rf.xh ?_
         refine Rf.Hu ?_
         repeat refine Rf.aa ?_
         refine Rf.az (by kernel_rfl) ?_
         refine Rf.aD aK 7 rfl ?_
         refine Rf.iw (v:=.bool true) (fun X=>kZ (by decide) X) rfl rfl rfl rfl rfl rfl ?_
         refine Rf.aI ?_
         repeat refine Rf.aa ?_
         refine Rf.eU rfl ?_
         repeat refine Rf.aa ?_
         refine Rf.dZ ?_
         repeat refine Rf.aa ?_
         refine Rf.qi ?_
         repeat refine Rf.aa ?_
         refine Rf.az (by kernel_rfl) ?_
         refine Rf.aD aK 7 rfl ?_
         refine Rf.fA 6 _ _ rfl rfl rfl rfl rfl rfl (fun u X=>Pl.enters Tryz.func39 (by kernel_rfl) rfl u X) (fun α γ w h=>mK 6 (fV _ (hg.ext h.ex) _ v n9 4 (by decide) 8 9 7 (h.r 1 rfl) (by decide) (by omega) (-200) 712 (by omega) (by omega) (by decide) (by decide))) ?_
         refine Rf.aD aK 7 rfl ?_
         refine Rf.aI ?_
         repeat refine Rf.aa ?_
         repeat refine Rf.aa ?_
         refine Rf.vD [(4,.v (.bool false)),(5,.v (.bool true)),(6,.p 1 0),(7,.v (.int .i64 n9)),(8,.p 2 0),(9,.v (.int .i64 4)),(10,.p 7 0),(11,.v (.int .i64 0)),(27,.v (.int .i64 4)),(28,.v (.bool true)),(29,.v (.int .i64 3)),(30,.v (.int .i64 4)),(31,.t [.a [.c 6 0,.c 6 1,.c 6 2],.v (.int .i64 0)]),(32,.a [.c 1 0,.c 1 1,.c 1 2]),(33,.v (.int .i64 n9)),(34,.v (.int .i64 4)),(35,.t [.a [.c 6 0,.c 6 1,.c 6 2],.v (.int .i64 0)]),(36,.a [.c 6 0,.c 6 1,.c 6 2]),(37,.v (.int .i64 0)),(58,.v (.bool false)),(59,.v (.int .i64 3)),(60,.a [.c 5 0,.c 5 1,.c 5 2]),(61,.p 2 9)] [(1,41,[.c 1 0,.c 1 1,.c 1 2]),(2,62,[.c 2 0,.c 2 1,.c 2 2,.c 3 0,.c 3 1,.c 3 2,.c 4 0,.c 4 1,.c 4 2,.c 5 0,.c 5 1,.c 5 2,.v (.bool false),.v (.slice none 0 0),.v (.int .i64 0)]),(7,26,[.c 6 0,.c 6 1,.c 6 2])] [(1,(l7 v 8 9).S),(2,(oq (Dy.cut 0 v n9) 16 (-200) 712).S),(3,(oq (Dy.cut 1 v n9) 16 (-200) 712).S),(4,(oq (Dy.cut 2 v n9) 16 (-200) 712).S),(5,(oq (Dy.cut 3 v n9) 16 (-200) 712).S),(6,(oq (Dy.cut 4 v n9) 16 (-200) 712).S)] ?_ ?_
         · repeat refine Rf.aa ?_
           refine Rf.eP rfl ?_
           repeat refine Rf.aa ?_
           refine Rf.dZ ?_
           repeat refine Rf.aa ?_
           refine Rf.az (by kernel_rfl) ?_
           refine Rf.aD aK 8 rfl ?_
           refine Rf.mX (j:=4) (q':=12) (s:=3) Tryz.underlying62 (by kernel_rfl) rfl (by decide) rfl rfl rfl rfl rfl rfl rfl ?_
           refine Rf.aD aK 8 rfl ?_
           refine Rf.aI ?_
           repeat refine Rf.aa ?_
           refine Rf.mM ?_
           repeat refine Rf.aa ?_
           refine Rf.az (by kernel_rfl) ?_
           refine Rf.aD aK 8 rfl ?_
           refine Rf.iw (v:=.int .i64 5) (iG (a:=4) (b:=1) (by omega)) rfl rfl rfl rfl rfl rfl ?_
           refine Rf.aD aK 8 rfl ?_
           refine Rf.aI ?_
           repeat refine Rf.aa ?_
           refine Rf.xh ?_
           refine Rf.TT ?_
           repeat refine Rf.aa ?_
           refine Rf.az (by kernel_rfl) ?_
           refine Rf.aD aK 8 rfl ?_
           refine Rf.iw (v:=.bool false) (fun X=>jG (by decide) X) rfl rfl rfl rfl rfl rfl ?_
           refine Rf.aI ?_
           repeat refine Rf.aa ?_
           refine Rf.eP rfl ?_
           repeat refine Rf.aa ?_
           refine Rf.TS ?_
           repeat refine Rf.aa ?_
           refine Rf.az (by kernel_rfl) ?_
           refine Rf.fA 7 _ _ rfl rfl rfl rfl rfl rfl (fun u X=>Pl.enters Tryz.func53 (by kernel_rfl) rfl u X) (fun α γ w h=>dx 7 (uG _ 1 (by decide) (by decide))) ?_
           refine Rf.aD aK 8 rfl ?_
           refine Rf.oK (.int .i64 (-n9)) rfl rfl rfl rfl rfl (fun X=>eH (by omega) X) ?_
           refine Rf.Ee (.a [.c 7 0,.c 7 1,.v (.int .i64 (-n9))]) rfl rfl rfl (fun _ _=>rfl) (fun α γ X=>by kernel_rfl) ?_
           refine Rf.fA 8 _ _ rfl rfl rfl rfl rfl rfl (fun u X=>Pl.enters Tryz.func36 (by kernel_rfl) rfl u X) (fun α γ w h=>eZ 8 (bY _ _ (Dy.dv 1 (-n9)) 1 7 _ _ (WX (lo := -200) (hi:=200) (h.r 7 rfl) (by omega) (by omega)) (by omega) (by omega) (by omega) (by omega))) ?_
           refine Rf.aD aK 8 rfl ?_
           refine Rf.aI ?_
           repeat refine Rf.aa ?_
           refine Rf.bM none fo ?_
           refine Rf.lN (j:=0) (q':=0) (s:=3) Tryz.underlying62 (by kernel_rfl) rfl (by decide) rfl rfl rfl rfl rfl rfl rfl rfl rfl ?_
           refine Rf.aO aK 15 9 rfl ?_
           refine Rf.aB 9 _ _ rfl rfl rfl rfl rfl rfl rfl rfl rfl (fun u X=>Pl.enters Tryz.func36 (by kernel_rfl) rfl u X) (fun α γ w h=>eZ 9 (bY _ _ (Dy.cut 0 v n9) 16 23 _ _ (h.r 2 rfl) (by omega) (by omega) (by omega) (by omega))) ?_
           refine Rf.lN (j:=1) (q':=3) (s:=3) Tryz.underlying62 (by kernel_rfl) rfl (by decide) rfl rfl rfl rfl rfl rfl rfl rfl rfl ?_
           refine Rf.aO aK 15 9 rfl ?_
           refine Rf.aB 10 _ _ rfl rfl rfl rfl rfl rfl rfl rfl rfl (fun u X=>Pl.enters Tryz.func36 (by kernel_rfl) rfl u X) (fun α γ w h=>eZ 10 (bY _ _ (Dy.cut 1 v n9) 16 23 _ _ (h.r 3 rfl) (by omega) (by omega) (by omega) (by omega))) ?_
           refine Rf.lN (j:=4) (q':=12) (s:=3) Tryz.underlying62 (by kernel_rfl) rfl (by decide) rfl rfl rfl rfl rfl rfl rfl rfl rfl ?_
           refine Rf.aO aK 15 9 rfl ?_
           refine Rf.aB 11 _ _ rfl rfl rfl rfl rfl rfl rfl rfl rfl (fun u X=>Pl.enters Tryz.func36 (by kernel_rfl) rfl u X) (fun α γ w h=>eZ 11 (bY _ _ (Dy.cut 4 v n9) 16 23 _ _ (h.r 6 rfl) (by omega) (by omega) (by omega) (by omega))) ?_
           refine Rf.aO aK 15 9 rfl ?_
           refine Rf.dQ (by kernel_rfl) ?_
           refine Rf.bN [4,5,6,8,12,13,14,15] [1,2,8,9,10,11] [1,2,3,4,5,6,8,9,10,11] rfl rfl rfl ?_
           repeat refine Rf.aa ?_
           refine Rf.az (by kernel_rfl) ?_
           refine Rf.aD aK 12 rfl ?_
           refine Rf.fA 12 _ _ rfl rfl rfl rfl rfl rfl (fun u X=>Pl.enters Tryz.func47 (by kernel_rfl) rfl u X) (fun α γ w h=>eZ 12 (jD _ _ _ v (Dy.cut 4 v n9) 8 9 40 25 (h.r 1 rfl) (h.r 11 rfl) 50 34 (by omega) (by omega) (by omega) (by omega) (by omega))) ?_
           refine Rf.aD aK 12 rfl ?_
           refine Rf.aI ?_
           repeat refine Rf.aa ?_
           refine Rf.az (by kernel_rfl) ?_
           refine Rf.aD aK 13 rfl ?_
           refine Rf.fA 13 _ _ rfl rfl rfl rfl rfl rfl (fun u X=>Pl.enters Tryz.func50 (by kernel_rfl) rfl u X) (fun α γ w h=>nZ 13 (mJ _ _ (v-(Dy.cut 4 v n9)) 50 34 (h.r 12 rfl) (by omega))) ?_
           refine Rf.L8 14 (fun b=>b=true↔(v-(Dy.cut 4 v n9))<0) rfl rfl rfl rfl rfl rfl rfl (fun α γ w h=>sgB (h.r 13 rfl)) ?_
           refine Rf.aI ?_
           repeat refine Rf.aa ?_
           refine Rf.vD [(4,.v (.bool false)),(5,.v (.bool true)),(6,.p 1 0),(8,.p 2 0),(12,.p 8 0),(13,.p 9 0),(14,.p 10 0),(16,.p 12 0)] [(1,41,[.c 1 0,.c 1 1,.c 1 2]),(2,62,[.c 2 0,.c 2 1,.c 2 2,.c 3 0,.c 3 1,.c 3 2,.c 4 0,.c 4 1,.c 4 2,.c 5 0,.c 5 1,.c 5 2,.c 6 0,.c 6 1,.c 6 2]),(8,41,[.c 8 0,.c 8 1,.c 8 2]),(9,41,[.c 9 0,.c 9 1,.c 9 2]),(10,41,[.c 10 0,.c 10 1,.c 10 2]),(12,41,[.c 15 0,.c 15 1,.c 15 2])] [(1,(l7 v 8 9).S),(2,(oq (Dy.cut 0 v n9) 16 (-200) 712).S),(3,(oq (Dy.cut 1 v n9) 16 (-200) 712).S),(4,(oq (Dy.cut 2 v n9) 16 (-200) 712).S),(5,(oq (Dy.cut 3 v n9) 16 (-200) 712).S),(6,(oq (Dy.cut 4 v n9) 16 (-200) 712).S),(8,(l7 (Dy.dv 1 (-n9)) 9 9).S),(9,(l7 (Dy.cut 0 v n9) 40 25).S),(10,(l7 (Dy.cut 1 v n9) 40 25).S),(15,(ER (fun q=>l7 q 50 34) (fun q=>q+q≤Dy.dv 1 (-n9))).S)] ?_ ?_
           · refine Rf.Zl 15 rfl (fun q9 YB=>?_)
             repeat refine Rf.aa ?_
             refine Rf.bM none fo ?_
             refine Rf.lN (j:=0) (q':=0) (s:=3) Tryz.underlying62 (by kernel_rfl) rfl (by decide) rfl rfl rfl rfl rfl rfl rfl rfl rfl ?_
             refine Rf.aO aK 8 13 rfl ?_
             refine Rf.lN (j:=1) (q':=3) (s:=3) Tryz.underlying62 (by kernel_rfl) rfl (by decide) rfl rfl rfl rfl rfl rfl rfl rfl rfl ?_
             refine Rf.aO aK 8 13 rfl ?_
             refine Rf.dQ (by kernel_rfl) ?_
             refine Rf.bN [4,5,6,8,12,13,14,16,17,18] [1,2,8,9,10,12,13,14] [1,2,3,4,5,6,8,9,10,15] rfl rfl rfl ?_
             repeat refine Rf.aa ?_
             refine Rf.az (by kernel_rfl) ?_
             refine Rf.aD aK 15 rfl ?_
             refine Rf.fA 16 _ _ rfl rfl rfl rfl rfl rfl (fun u X=>Pl.enters Tryz.func50 (by kernel_rfl) rfl u X) (fun α γ w h=>nZ 16 (mJ _ _ v 8 9 (h.r 1 rfl) (by omega))) ?_
             refine Rf.L8 17 (fun b=>b=true↔v<0) rfl rfl rfl rfl rfl rfl rfl (fun α γ w h=>sgB (h.r 16 rfl)) ?_
             refine Rf.aI ?_
             repeat refine Rf.aa ?_
             refine Rf.vD [(4,.v (.bool false)),(5,.v (.bool true)),(6,.p 1 0),(8,.p 2 0),(12,.p 8 0),(13,.p 9 0),(14,.p 10 0),(16,.p 12 0),(17,.p 13 0),(18,.p 14 0)] [(1,41,[.c 1 0,.c 1 1,.c 1 2]),(2,62,[.c 2 0,.c 2 1,.c 2 2,.c 3 0,.c 3 1,.c 3 2,.c 4 0,.c 4 1,.c 4 2,.c 5 0,.c 5 1,.c 5 2,.c 6 0,.c 6 1,.c 6 2]),(8,41,[.c 8 0,.c 8 1,.c 8 2]),(9,41,[.c 9 0,.c 9 1,.c 9 2]),(10,41,[.c 10 0,.c 10 1,.c 10 2]),(12,41,[.c 15 0,.c 15 1,.c 15 2]),(13,26,[.c 18 0,.c 18 1,.c 18 2]),(14,26,[.c 19 0,.c 19 1,.c 19 2])] [(1,(l7 v 8 9).S),(2,(oq (Dy.cut 0 v n9) 16 (-200) 712).S),(3,(oq (Dy.cut 1 v n9) 16 (-200) 712).S),(4,(oq (Dy.cut 2 v n9) 16 (-200) 712).S),(5,(oq (Dy.cut 3 v n9) 16 (-200) 712).S),(6,(oq (Dy.cut 4 v n9) 16 (-200) 712).S),(8,(l7 (Dy.dv 1 (-n9)) 9 9).S),(9,(l7 (Dy.cut 0 v n9) 40 25).S),(10,(l7 (Dy.cut 1 v n9) 40 25).S),(15,(l7 q9 50 34).S),(18,(oq (Dy.cut 2 v n9) 16 (-200) 712).S),(19,(oq (Dy.cut 3 v n9) 16 (-200) 712).S)] ?_ ?_
             · repeat refine Rf.aa ?_
               by_cases c9:Dy.cut 4 v n9=Dy.cut 0 v n9
               · repeat refine Rf.aa ?_
                 refine Rf.bM none fo ?_
                 refine Rf.aO aK 64 15 rfl ?_
                 refine Rf.aB 20 _ _ rfl rfl rfl rfl rfl rfl rfl rfl rfl (fun u X=>Pl.enters Tryz.func49 (by kernel_rfl) rfl u X) (fun α γ w h=>nZ 20 (fF _ _ _ (Dy.cut 0 v n9) v 40 25 8 9 (h.r 9 rfl) (h.r 1 rfl) (by omega) (by omega))) ?_
                 refine Rf.vk (.v (.bool true)) rfl rfl rfl rfl rfl rfl rfl rfl rfl rfl (fun α γ w h=>E8 (h.r 20 rfl) (fun k hk=>Hr9x hk (Dy.yE v n9).1)) ?_
                 refine Rf.aO aK 64 15 rfl ?_
                 refine Rf.aB 21 _ _ rfl rfl rfl rfl rfl rfl rfl rfl rfl (fun u X=>Pl.enters Tryz.func49 (by kernel_rfl) rfl u X) (fun α γ w h=>nZ 21 (fF _ _ _ (Dy.cut 1 v n9) v 40 25 8 9 (h.r 10 rfl) (h.r 1 rfl) (by omega) (by omega))) ?_
                 refine Rf.vk (.v (.bool true)) rfl rfl rfl rfl rfl rfl rfl rfl rfl rfl (fun α γ w h=>PI (h.r 21 rfl) (fun k hk=>VH hk (Dy.vB v n9).1)) ?_
                 refine Rf.aO aK 64 15 rfl ?_
                 refine Rf.aB 22 _ _ rfl rfl rfl rfl rfl rfl rfl rfl rfl (fun u X=>Pl.enters Tryz.func46 (by kernel_rfl) rfl u X) (fun α γ w h=>eZ 22 (ig _ _ _ (Dy.cut 0 v n9) (Dy.dv 1 (-n9)) 40 25 9 9 (h.r 9 rfl) (h.r 8 rfl) 50 34 (by omega) (by omega) (by omega) (by omega) (by omega))) ?_
                 refine Rf.aO aK 64 15 rfl ?_
                 refine Rf.aB 23 _ _ rfl rfl rfl rfl rfl rfl rfl rfl rfl (fun u X=>Pl.enters Tryz.func49 (by kernel_rfl) rfl u X) (fun α γ w h=>nZ 23 (fF _ _ _ ((Dy.cut 0 v n9)+(Dy.dv 1 (-n9))) v 50 34 8 9 (h.r 22 rfl) (h.r 1 rfl) (by omega) (by omega))) ?_
                 refine Rf.vk (.v (.bool true)) rfl rfl rfl rfl rfl rfl rfl rfl rfl rfl (fun α γ w h=>PG (h.r 23 rfl) (fun k hk=>hk.2.2.2.2.2 (BM9x v n9))) ?_
                 refine Rf.aO aK 64 15 rfl ?_
                 refine Rf.aB 24 _ _ rfl rfl rfl rfl rfl rfl rfl rfl rfl (fun u X=>Pl.enters Tryz.func47 (by kernel_rfl) rfl u X) (fun α γ w h=>eZ 24 (jD _ _ _ (Dy.cut 1 v n9) (Dy.dv 1 (-n9)) 40 25 9 9 (h.r 10 rfl) (h.r 8 rfl) 50 34 (by omega) (by omega) (by omega) (by omega) (by omega))) ?_
                 refine Rf.aO aK 64 15 rfl ?_
                 refine Rf.aB 25 _ _ rfl rfl rfl rfl rfl rfl rfl rfl rfl (fun u X=>Pl.enters Tryz.func49 (by kernel_rfl) rfl u X) (fun α γ w h=>nZ 25 (fF _ _ _ ((Dy.cut 1 v n9)-(Dy.dv 1 (-n9))) v 50 34 8 9 (h.r 24 rfl) (h.r 1 rfl) (by omega) (by omega))) ?_
                 refine Rf.vk (.v (.bool true)) rfl rfl rfl rfl rfl rfl rfl rfl rfl rfl (fun α γ w h=>PE (h.r 25 rfl) (fun k hk=>hk.2.2.1.2 (Ed v n9))) ?_
                 refine Rf.aO aK 64 15 rfl ?_
                 refine Rf.lN (j:=2) (q':=6) (s:=3) Tryz.underlying62 (by kernel_rfl) rfl (by decide) rfl rfl rfl rfl rfl rfl rfl rfl rfl ?_
                 refine Rf.aO aK 64 15 rfl ?_
                 refine Rf.aB 26 (TR) (.v (.bool true)) rfl rfl rfl rfl rfl rfl rfl rfl rfl (fun u X=>Pl.enters Tryz.func17 (by kernel_rfl) rfl u X) (fun α γ w h=>lQ 26 (rfl:(Dy.cut 2 v n9)=(Dy.cut 2 v n9)) (aS _ _ _ (Dy.cut 2 v n9) (Dy.cut 2 v n9) _ _ _ _ _ _ (h.r 4 rfl) (h.r 18 rfl) (by decide) (by decide))) ?_
                 refine Rf.aO aK 64 15 rfl ?_
                 refine Rf.lN (j:=3) (q':=9) (s:=3) Tryz.underlying62 (by kernel_rfl) rfl (by decide) rfl rfl rfl rfl rfl rfl rfl rfl rfl ?_
                 refine Rf.aO aK 64 15 rfl ?_
                 refine Rf.aB 27 (TR) (.v (.bool true)) rfl rfl rfl rfl rfl rfl rfl rfl rfl (fun u X=>Pl.enters Tryz.func17 (by kernel_rfl) rfl u X) (fun α γ w h=>lQ 27 (rfl:(Dy.cut 3 v n9)=(Dy.cut 3 v n9)) (aS _ _ _ (Dy.cut 3 v n9) (Dy.cut 3 v n9) _ _ _ _ _ _ (h.r 5 rfl) (h.r 19 rfl) (by decide) (by decide))) ?_
                 refine Rf.aO aK 64 15 rfl ?_
                 refine Rf.lN (j:=4) (q':=12) (s:=3) Tryz.underlying62 (by kernel_rfl) rfl (by decide) rfl rfl rfl rfl rfl rfl rfl rfl rfl ?_
                 refine Rf.aO aK 64 15 rfl ?_
                 refine Rf.lN (j:=0) (q':=0) (s:=3) Tryz.underlying62 (by kernel_rfl) rfl (by decide) rfl rfl rfl rfl rfl rfl rfl rfl rfl ?_
                 refine Rf.aO aK 64 15 rfl ?_
                 refine Rf.aB 28 (TR) (.v (.bool true)) rfl rfl rfl rfl rfl rfl rfl rfl rfl (fun u X=>Pl.enters Tryz.func17 (by kernel_rfl) rfl u X) (fun α γ w h=>lQ 28 (c9:(Dy.cut 4 v n9)=(Dy.cut 0 v n9)) (aS _ _ _ (Dy.cut 4 v n9) (Dy.cut 0 v n9) _ _ _ _ _ _ (h.r 6 rfl) (h.r 2 rfl) (by decide) (by decide))) ?_
                 refine Rf.aO aK 64 15 rfl ?_
                 refine Rf.aB 29 _ _ rfl rfl rfl rfl rfl rfl rfl rfl rfl (fun u X=>Pl.enters Tryz.func46 (by kernel_rfl) rfl u X) (fun α γ w h=>eZ 29 (ig _ _ _ q9 q9 50 34 50 34 (h.r 15 rfl) (h.r 15 rfl) 85 68 (by omega) (by omega) (by omega) (by omega) (by omega))) ?_
                 refine Rf.aO aK 64 15 rfl ?_
                 refine Rf.aB 30 _ _ rfl rfl rfl rfl rfl rfl rfl rfl rfl (fun u X=>Pl.enters Tryz.func49 (by kernel_rfl) rfl u X) (fun α γ w h=>nZ 30 (fF _ _ _ (q9+q9) (Dy.dv 1 (-n9)) 85 68 9 9 (h.r 29 rfl) (h.r 8 rfl) (by omega) (by omega))) ?_
                 refine Rf.vk (.v (.bool true)) rfl rfl rfl rfl rfl rfl rfl rfl rfl rfl (fun α γ w h=>E8 (h.r 30 rfl) (fun k hk=>Hr9x hk YB)) ?_
                 refine Rf.aO aK 64 15 rfl ?_
                 refine Rf.dQ (by kernel_rfl) ?_
                 refine Rf.bN [4] [] [] rfl rfl rfl ?_
                 repeat refine Rf.aa ?_
                 exact Rf.bI aK (fun _ _ h=>h) rfl rfl (fun α γ w h=>⟨rfl,h.ex⟩)
               · repeat refine Rf.aa ?_
                 refine Rf.bM none fo ?_
                 refine Rf.aO aK 64 15 rfl ?_
                 refine Rf.aB 20 _ _ rfl rfl rfl rfl rfl rfl rfl rfl rfl (fun u X=>Pl.enters Tryz.func49 (by kernel_rfl) rfl u X) (fun α γ w h=>nZ 20 (fF _ _ _ (Dy.cut 0 v n9) v 40 25 8 9 (h.r 9 rfl) (h.r 1 rfl) (by omega) (by omega))) ?_
                 refine Rf.vk (.v (.bool true)) rfl rfl rfl rfl rfl rfl rfl rfl rfl rfl (fun α γ w h=>E8 (h.r 20 rfl) (fun k hk=>Hr9x hk (Dy.yE v n9).1)) ?_
                 refine Rf.aO aK 64 15 rfl ?_
                 refine Rf.aB 21 _ _ rfl rfl rfl rfl rfl rfl rfl rfl rfl (fun u X=>Pl.enters Tryz.func49 (by kernel_rfl) rfl u X) (fun α γ w h=>nZ 21 (fF _ _ _ (Dy.cut 1 v n9) v 40 25 8 9 (h.r 10 rfl) (h.r 1 rfl) (by omega) (by omega))) ?_
                 refine Rf.vk (.v (.bool true)) rfl rfl rfl rfl rfl rfl rfl rfl rfl rfl (fun α γ w h=>PI (h.r 21 rfl) (fun k hk=>VH hk (Dy.vB v n9).1)) ?_
                 refine Rf.aO aK 64 15 rfl ?_
                 refine Rf.aB 22 _ _ rfl rfl rfl rfl rfl rfl rfl rfl rfl (fun u X=>Pl.enters Tryz.func46 (by kernel_rfl) rfl u X) (fun α γ w h=>eZ 22 (ig _ _ _ (Dy.cut 0 v n9) (Dy.dv 1 (-n9)) 40 25 9 9 (h.r 9 rfl) (h.r 8 rfl) 50 34 (by omega) (by omega) (by omega) (by omega) (by omega))) ?_
                 refine Rf.aO aK 64 15 rfl ?_
                 refine Rf.aB 23 _ _ rfl rfl rfl rfl rfl rfl rfl rfl rfl (fun u X=>Pl.enters Tryz.func49 (by kernel_rfl) rfl u X) (fun α γ w h=>nZ 23 (fF _ _ _ ((Dy.cut 0 v n9)+(Dy.dv 1 (-n9))) v 50 34 8 9 (h.r 22 rfl) (h.r 1 rfl) (by omega) (by omega))) ?_
                 refine Rf.vk (.v (.bool true)) rfl rfl rfl rfl rfl rfl rfl rfl rfl rfl (fun α γ w h=>PG (h.r 23 rfl) (fun k hk=>hk.2.2.2.2.2 (BM9x v n9))) ?_
                 refine Rf.aO aK 64 15 rfl ?_
                 refine Rf.aB 24 _ _ rfl rfl rfl rfl rfl rfl rfl rfl rfl (fun u X=>Pl.enters Tryz.func47 (by kernel_rfl) rfl u X) (fun α γ w h=>eZ 24 (jD _ _ _ (Dy.cut 1 v n9) (Dy.dv 1 (-n9)) 40 25 9 9 (h.r 10 rfl) (h.r 8 rfl) 50 34 (by omega) (by omega) (by omega) (by omega) (by omega))) ?_
                 refine Rf.aO aK 64 15 rfl ?_
                 refine Rf.aB 25 _ _ rfl rfl rfl rfl rfl rfl rfl rfl rfl (fun u X=>Pl.enters Tryz.func49 (by kernel_rfl) rfl u X) (fun α γ w h=>nZ 25 (fF _ _ _ ((Dy.cut 1 v n9)-(Dy.dv 1 (-n9))) v 50 34 8 9 (h.r 24 rfl) (h.r 1 rfl) (by omega) (by omega))) ?_
                 refine Rf.vk (.v (.bool true)) rfl rfl rfl rfl rfl rfl rfl rfl rfl rfl (fun α γ w h=>PE (h.r 25 rfl) (fun k hk=>hk.2.2.1.2 (Ed v n9))) ?_
                 refine Rf.aO aK 64 15 rfl ?_
                 refine Rf.lN (j:=2) (q':=6) (s:=3) Tryz.underlying62 (by kernel_rfl) rfl (by decide) rfl rfl rfl rfl rfl rfl rfl rfl rfl ?_
                 refine Rf.aO aK 64 15 rfl ?_
                 refine Rf.aB 26 (TR) (.v (.bool true)) rfl rfl rfl rfl rfl rfl rfl rfl rfl (fun u X=>Pl.enters Tryz.func17 (by kernel_rfl) rfl u X) (fun α γ w h=>lQ 26 (rfl:(Dy.cut 2 v n9)=(Dy.cut 2 v n9)) (aS _ _ _ (Dy.cut 2 v n9) (Dy.cut 2 v n9) _ _ _ _ _ _ (h.r 4 rfl) (h.r 18 rfl) (by decide) (by decide))) ?_
                 refine Rf.aO aK 64 15 rfl ?_
                 refine Rf.lN (j:=3) (q':=9) (s:=3) Tryz.underlying62 (by kernel_rfl) rfl (by decide) rfl rfl rfl rfl rfl rfl rfl rfl rfl ?_
                 refine Rf.aO aK 64 15 rfl ?_
                 refine Rf.aB 27 (TR) (.v (.bool true)) rfl rfl rfl rfl rfl rfl rfl rfl rfl (fun u X=>Pl.enters Tryz.func17 (by kernel_rfl) rfl u X) (fun α γ w h=>lQ 27 (rfl:(Dy.cut 3 v n9)=(Dy.cut 3 v n9)) (aS _ _ _ (Dy.cut 3 v n9) (Dy.cut 3 v n9) _ _ _ _ _ _ (h.r 5 rfl) (h.r 19 rfl) (by decide) (by decide))) ?_
                 refine Rf.aO aK 64 15 rfl ?_
                 refine Rf.lN (j:=4) (q':=12) (s:=3) Tryz.underlying62 (by kernel_rfl) rfl (by decide) rfl rfl rfl rfl rfl rfl rfl rfl rfl ?_
                 refine Rf.aO aK 64 15 rfl ?_
                 refine Rf.lN (j:=0) (q':=0) (s:=3) Tryz.underlying62 (by kernel_rfl) rfl (by decide) rfl rfl rfl rfl rfl rfl rfl rfl rfl ?_
                 refine Rf.aO aK 64 15 rfl ?_
                 refine Rf.aB 28 (TR) (.v (.bool false)) rfl rfl rfl rfl rfl rfl rfl rfl rfl (fun u X=>Pl.enters Tryz.func17 (by kernel_rfl) rfl u X) (fun α γ w h=>TV 28 (c9:¬ (Dy.cut 4 v n9)=(Dy.cut 0 v n9)) (aS _ _ _ (Dy.cut 4 v n9) (Dy.cut 0 v n9) _ _ _ _ _ _ (h.r 6 rfl) (h.r 2 rfl) (by decide) (by decide))) ?_
                 refine Rf.aO aK 64 15 rfl ?_
                 refine Rf.lN (j:=4) (q':=12) (s:=3) Tryz.underlying62 (by kernel_rfl) rfl (by decide) rfl rfl rfl rfl rfl rfl rfl rfl rfl ?_
                 refine Rf.aO aK 64 15 rfl ?_
                 refine Rf.lN (j:=1) (q':=3) (s:=3) Tryz.underlying62 (by kernel_rfl) rfl (by decide) rfl rfl rfl rfl rfl rfl rfl rfl rfl ?_
                 refine Rf.aO aK 64 15 rfl ?_
                 refine Rf.aB 29 (TR) (.v (.bool true)) rfl rfl rfl rfl rfl rfl rfl rfl rfl (fun u X=>Pl.enters Tryz.func17 (by kernel_rfl) rfl u X) (fun α γ w h=>lQ 29 ((TU c9):(Dy.cut 4 v n9)=(Dy.cut 1 v n9)) (aS _ _ _ (Dy.cut 4 v n9) (Dy.cut 1 v n9) _ _ _ _ _ _ (h.r 6 rfl) (h.r 3 rfl) (by decide) (by decide))) ?_
                 refine Rf.aO aK 64 15 rfl ?_
                 refine Rf.aB 30 _ _ rfl rfl rfl rfl rfl rfl rfl rfl rfl (fun u X=>Pl.enters Tryz.func46 (by kernel_rfl) rfl u X) (fun α γ w h=>eZ 30 (ig _ _ _ q9 q9 50 34 50 34 (h.r 15 rfl) (h.r 15 rfl) 85 68 (by omega) (by omega) (by omega) (by omega) (by omega))) ?_
                 refine Rf.aO aK 64 15 rfl ?_
                 refine Rf.aB 31 _ _ rfl rfl rfl rfl rfl rfl rfl rfl rfl (fun u X=>Pl.enters Tryz.func49 (by kernel_rfl) rfl u X) (fun α γ w h=>nZ 31 (fF _ _ _ (q9+q9) (Dy.dv 1 (-n9)) 85 68 9 9 (h.r 30 rfl) (h.r 8 rfl) (by omega) (by omega))) ?_
                 refine Rf.vk (.v (.bool true)) rfl rfl rfl rfl rfl rfl rfl rfl rfl rfl (fun α γ w h=>E8 (h.r 31 rfl) (fun k hk=>Hr9x hk YB)) ?_
                 refine Rf.aO aK 64 15 rfl ?_
                 refine Rf.dQ (by kernel_rfl) ?_
                 refine Rf.bN [4] [] [] rfl rfl rfl ?_
                 repeat refine Rf.aa ?_
                 exact Rf.bI aK (fun _ _ h=>h) rfl rfl (fun α γ w h=>⟨rfl,h.ex⟩)
             · intro hc9
               repeat refine Rf.aa ?_
               refine Rf.Hw rfl rfl (fun hb=>?_) (fun hb=>?_)
               · repeat refine Rf.aa ?_
                 refine Rf.az (by kernel_rfl) ?_
                 refine Rf.mX (j:=1) (q':=3) (s:=3) Tryz.underlying62 (by kernel_rfl) rfl (by decide) rfl rfl rfl rfl rfl rfl rfl ?_
                 refine Rf.aD aK 15 rfl ?_
                 refine Rf.aI ?_
                 repeat refine Rf.aa ?_
                 refine Rf.az (by kernel_rfl) ?_
                 refine Rf.mX (j:=0) (q':=0) (s:=3) Tryz.underlying62 (by kernel_rfl) rfl (by decide) rfl rfl rfl rfl rfl rfl rfl ?_
                 refine Rf.aD aK 15 rfl ?_
                 refine Rf.aI ?_
                 refine Rf.yG 13 3 18 (oq (Dy.cut 2 v n9) 16 (-200) 712) rfl rfl rfl (fun w f h=>by rw [Dy.Ht,if_pos (hb.1 rfl)];exact h) rfl ?_
                 refine Rf.yG 14 2 19 (oq (Dy.cut 3 v n9) 16 (-200) 712) rfl rfl rfl (fun w f h=>by rw [Dy.Eb,if_pos (hb.1 rfl)];exact h) rfl ?_
                 exact Rf.lC hc9 ⟨rfl,rfl,rfl,rfl,rfl,rfl,rfl,rfl,rfl,rfl,trivial⟩ ⟨rfl,rfl,rfl,rfl,rfl,rfl,rfl,rfl,trivial⟩ ⟨rfl,rfl,rfl,rfl,rfl,rfl,rfl,rfl,rfl,rfl,rfl,rfl,trivial⟩
               · repeat refine Rf.aa ?_
                 refine Rf.dZ ?_
                 refine Rf.yG 13 2 18 (oq (Dy.cut 2 v n9) 16 (-200) 712) rfl rfl rfl (fun w f h=>by rw [Dy.Ht,if_neg (fun h9=>by cases hb.2 h9)];exact h) rfl ?_
                 refine Rf.yG 14 3 19 (oq (Dy.cut 3 v n9) 16 (-200) 712) rfl rfl rfl (fun w f h=>by rw [Dy.Eb,if_neg (fun h9=>by cases hb.2 h9)];exact h) rfl ?_
                 exact Rf.lC hc9 ⟨rfl,rfl,rfl,rfl,rfl,rfl,rfl,rfl,rfl,rfl,trivial⟩ ⟨rfl,rfl,rfl,rfl,rfl,rfl,rfl,rfl,trivial⟩ ⟨rfl,rfl,rfl,rfl,rfl,rfl,rfl,rfl,rfl,rfl,rfl,rfl,trivial⟩
           · intro hc7
             repeat refine Rf.aa ?_
             refine Rf.Hw rfl rfl (fun hb=>?_) (fun hb=>?_)
             · repeat refine Rf.aa ?_
               refine Rf.az (by kernel_rfl) ?_
               refine Rf.aD aK 13 rfl ?_
               refine Rf.fA 16 _ _ rfl rfl rfl rfl rfl rfl (fun u X=>Pl.enters Tryz.func54 (by kernel_rfl) rfl u X) (fun α γ w h=>eZ 16 (kv _ _ (v-(Dy.cut 4 v n9)) 50 34 (h.r 12 rfl) (by omega))) ?_
               refine Rf.aD aK 13 rfl ?_
               refine Rf.aI ?_
               refine Rf.yG 12 16 15 (ER (fun q=>l7 q 50 34) (fun q=>q+q≤Dy.dv 1 (-n9))) rfl rfl rfl (fun w f h=>⟨_,Zo v n9,h⟩) rfl ?_
               exact Rf.lC hc7 ⟨rfl,rfl,rfl,rfl,rfl,rfl,rfl,rfl,trivial⟩ ⟨rfl,rfl,rfl,rfl,rfl,rfl,trivial⟩ ⟨rfl,rfl,rfl,rfl,rfl,rfl,rfl,rfl,rfl,rfl,trivial⟩
             · repeat refine Rf.aa ?_
               refine Rf.dZ ?_
               refine Rf.yG 12 12 15 (ER (fun q=>l7 q 50 34) (fun q=>q+q≤Dy.dv 1 (-n9))) rfl rfl rfl (fun w f h=>⟨_,Zm v n9,h⟩) rfl ?_
               exact Rf.lC hc7 ⟨rfl,rfl,rfl,rfl,rfl,rfl,rfl,rfl,trivial⟩ ⟨rfl,rfl,rfl,rfl,rfl,rfl,trivial⟩ ⟨rfl,rfl,rfl,rfl,rfl,rfl,rfl,rfl,rfl,rfl,trivial⟩
         · intro PL
           repeat refine Rf.aa ?_
           refine Rf.az (by kernel_rfl) ?_
           refine Rf.aD aK 8 rfl ?_
           refine Rf.iw (v:=.bool false) (fun X=>om (by decide) X) rfl rfl rfl rfl rfl rfl ?_
           refine Rf.aD aK 8 rfl ?_
           refine Rf.fA 7 _ _ rfl rfl rfl rfl rfl rfl (fun u X=>Pl.enters Tryz.func14 (by kernel_rfl) rfl u X) (fun α γ w h=>Dx 7 (sP (h.r 6 rfl) (by decide) (by decide) (by decide))) ?_
           refine Rf.oK (.bool false) rfl rfl rfl rfl rfl (fun X=>pI _ X) ?_
           refine Rf.aD aK 8 rfl ?_
           refine Rf.sO 6 rfl (fun m6 e7 d8=>?_)
           refine Rf.BQ ((limbs (Int.natAbs m6)).length) Tryz.underlying22 rfl rfl rfl rfl rfl rfl (fun w f h=>h.2.2.1) ?_
           refine Rf.ji (p:=(((limbs (Int.natAbs m6)).length:Nat):Int)>0) (BS _ _) rfl rfl rfl rfl rfl rfl (fun c9=>?_) (fun c9=>?_)
           · refine Rf.aD aK 8 rfl ?_
             refine Rf.oK (.int .i64 (-n9)) rfl rfl rfl rfl rfl (fun X=>eH (by omega) X) ?_
             refine Rf.xg 53 (.v (.int .i64 e7)) rfl (fun α γ w h=>(h.r 6 rfl).2.1.symm) ?_
             refine Rf.iw (v:=.bool false) (fun X=>jG (xw d8 (by omega)) X) rfl rfl rfl rfl rfl rfl ?_
             refine Rf.aD aK 8 rfl ?_
             refine Rf.aI ?_
             refine Rf.l8 6 (oq (Dy.cut 4 v n9) 16 (-200) 712) rfl (fun w f h=>iK.dn (m:=m6) (e:=e7) h d8) ?_
             exact Rf.lC PL ⟨rfl,rfl,rfl,rfl,rfl,rfl,rfl,rfl,rfl,rfl,rfl,rfl,rfl,rfl,rfl,rfl,rfl,rfl,rfl,rfl,rfl,rfl,rfl,trivial⟩ ⟨rfl,rfl,rfl,trivial⟩ ⟨rfl,rfl,rfl,rfl,rfl,rfl,trivial⟩
           · refine Rf.aD aK 8 rfl ?_
             refine Rf.aI ?_
             refine Rf.l8 6 (oq (Dy.cut 4 v n9) 16 (-200) 712) rfl (fun w f h=>iK.dn (m:=m6) (e:=e7) h d8) ?_
             exact Rf.lC PL ⟨rfl,rfl,rfl,rfl,rfl,rfl,rfl,rfl,rfl,rfl,rfl,rfl,rfl,rfl,rfl,rfl,rfl,rfl,rfl,rfl,rfl,rfl,rfl,trivial⟩ ⟨rfl,rfl,rfl,trivial⟩ ⟨rfl,rfl,rfl,rfl,rfl,rfl,trivial⟩
       · intro hc4
         repeat refine Rf.aa ?_
         refine Rf.az (by kernel_rfl) ?_
         refine Rf.aD aK 7 rfl ?_
         refine Rf.iw (v:=.bool false) (fun X=>om (by decide) X) rfl rfl rfl rfl rfl rfl ?_
         refine Rf.aD aK 7 rfl ?_
         refine Rf.fA 6 _ _ rfl rfl rfl rfl rfl rfl (fun u X=>Pl.enters Tryz.func14 (by kernel_rfl) rfl u X) (fun α γ w h=>Dx 6 (sP (h.r 5 rfl) (by decide) (by decide) (by decide))) ?_
         refine Rf.oK (.bool false) rfl rfl rfl rfl rfl (fun X=>pI _ X) ?_
         refine Rf.aD aK 7 rfl ?_
         refine Rf.sO 5 rfl (fun m5 e6 d7=>?_)
         refine Rf.BQ ((limbs (Int.natAbs m5)).length) Tryz.underlying22 rfl rfl rfl rfl rfl rfl (fun w f h=>h.2.2.1) ?_
         refine Rf.ji (p:=(((limbs (Int.natAbs m5)).length:Nat):Int)>0) (BS _ _) rfl rfl rfl rfl rfl rfl (fun c8=>?_) (fun c8=>?_)
         · refine Rf.aD aK 7 rfl ?_
           refine Rf.oK (.int .i64 (-n9)) rfl rfl rfl rfl rfl (fun X=>eH (by omega) X) ?_
           refine Rf.xg 53 (.v (.int .i64 e6)) rfl (fun α γ w h=>(h.r 5 rfl).2.1.symm) ?_
           refine Rf.iw (v:=.bool false) (fun X=>jG (xw d7 (by omega)) X) rfl rfl rfl rfl rfl rfl ?_
           refine Rf.aD aK 7 rfl ?_
           refine Rf.aI ?_
           refine Rf.l8 5 (oq (Dy.cut 3 v n9) 16 (-200) 712) rfl (fun w f h=>iK.dn (m:=m5) (e:=e6) h d7) ?_
           exact Rf.lC hc4 ⟨rfl,rfl,rfl,rfl,rfl,rfl,rfl,rfl,rfl,rfl,rfl,rfl,rfl,rfl,rfl,rfl,rfl,rfl,rfl,rfl,rfl,rfl,rfl,trivial⟩ ⟨rfl,rfl,rfl,trivial⟩ ⟨rfl,rfl,rfl,rfl,rfl,trivial⟩
         · refine Rf.aD aK 7 rfl ?_
           refine Rf.aI ?_
           refine Rf.l8 5 (oq (Dy.cut 3 v n9) 16 (-200) 712) rfl (fun w f h=>iK.dn (m:=m5) (e:=e6) h d7) ?_
           exact Rf.lC hc4 ⟨rfl,rfl,rfl,rfl,rfl,rfl,rfl,rfl,rfl,rfl,rfl,rfl,rfl,rfl,rfl,rfl,rfl,rfl,rfl,rfl,rfl,rfl,rfl,trivial⟩ ⟨rfl,rfl,rfl,trivial⟩ ⟨rfl,rfl,rfl,rfl,rfl,trivial⟩
     · intro hc3
       repeat refine Rf.aa ?_
       refine Rf.az (by kernel_rfl) ?_
       refine Rf.aD aK 6 rfl ?_
       refine Rf.iw (v:=.bool false) (fun X=>om (by decide) X) rfl rfl rfl rfl rfl rfl ?_
       refine Rf.aD aK 6 rfl ?_
       refine Rf.fA 5 _ _ rfl rfl rfl rfl rfl rfl (fun u X=>Pl.enters Tryz.func14 (by kernel_rfl) rfl u X) (fun α γ w h=>Dx 5 (sP (h.r 4 rfl) (by decide) (by decide) (by decide))) ?_
       refine Rf.oK (.bool false) rfl rfl rfl rfl rfl (fun X=>pI _ X) ?_
       refine Rf.aD aK 6 rfl ?_
       refine Rf.sO 4 rfl (fun m4 e5 d6=>?_)
       refine Rf.BQ ((limbs (Int.natAbs m4)).length) Tryz.underlying22 rfl rfl rfl rfl rfl rfl (fun w f h=>h.2.2.1) ?_
       refine Rf.ji (p:=(((limbs (Int.natAbs m4)).length:Nat):Int)>0) (BS _ _) rfl rfl rfl rfl rfl rfl (fun c7=>?_) (fun c7=>?_)
       · refine Rf.aD aK 6 rfl ?_
         refine Rf.oK (.int .i64 (-n9)) rfl rfl rfl rfl rfl (fun X=>eH (by omega) X) ?_
         refine Rf.xg 53 (.v (.int .i64 e5)) rfl (fun α γ w h=>(h.r 4 rfl).2.1.symm) ?_
         refine Rf.iw (v:=.bool false) (fun X=>jG (xw d6 (by omega)) X) rfl rfl rfl rfl rfl rfl ?_
         refine Rf.aD aK 6 rfl ?_
         refine Rf.aI ?_
         refine Rf.l8 4 (oq (Dy.cut 2 v n9) 16 (-200) 712) rfl (fun w f h=>iK.dn (m:=m4) (e:=e5) h d6) ?_
         exact Rf.lC hc3 ⟨rfl,rfl,rfl,rfl,rfl,rfl,rfl,rfl,rfl,rfl,rfl,rfl,rfl,rfl,rfl,rfl,rfl,rfl,rfl,rfl,rfl,rfl,rfl,trivial⟩ ⟨rfl,rfl,rfl,trivial⟩ ⟨rfl,rfl,rfl,rfl,trivial⟩
       · refine Rf.aD aK 6 rfl ?_
         refine Rf.aI ?_
         refine Rf.l8 4 (oq (Dy.cut 2 v n9) 16 (-200) 712) rfl (fun w f h=>iK.dn (m:=m4) (e:=e5) h d6) ?_
         exact Rf.lC hc3 ⟨rfl,rfl,rfl,rfl,rfl,rfl,rfl,rfl,rfl,rfl,rfl,rfl,rfl,rfl,rfl,rfl,rfl,rfl,rfl,rfl,rfl,rfl,rfl,trivial⟩ ⟨rfl,rfl,rfl,trivial⟩ ⟨rfl,rfl,rfl,rfl,trivial⟩
   · intro hc2
     repeat refine Rf.aa ?_
     refine Rf.az (by kernel_rfl) ?_
     refine Rf.aD aK 5 rfl ?_
     refine Rf.iw (v:=.bool false) (fun X=>om (by decide) X) rfl rfl rfl rfl rfl rfl ?_
     refine Rf.aD aK 5 rfl ?_
     refine Rf.fA 4 _ _ rfl rfl rfl rfl rfl rfl (fun u X=>Pl.enters Tryz.func14 (by kernel_rfl) rfl u X) (fun α γ w h=>Dx 4 (sP (h.r 3 rfl) (by decide) (by decide) (by decide))) ?_
     refine Rf.oK (.bool false) rfl rfl rfl rfl rfl (fun X=>pI _ X) ?_
     refine Rf.aD aK 5 rfl ?_
     refine Rf.sO 3 rfl (fun m3 e4 d5=>?_)
     refine Rf.BQ ((limbs (Int.natAbs m3)).length) Tryz.underlying22 rfl rfl rfl rfl rfl rfl (fun w f h=>h.2.2.1) ?_
     refine Rf.ji (p:=(((limbs (Int.natAbs m3)).length:Nat):Int)>0) (BS _ _) rfl rfl rfl rfl rfl rfl (fun c6=>?_) (fun c6=>?_)
     · refine Rf.aD aK 5 rfl ?_
       refine Rf.oK (.int .i64 (-n9)) rfl rfl rfl rfl rfl (fun X=>eH (by omega) X) ?_
       refine Rf.xg 53 (.v (.int .i64 e4)) rfl (fun α γ w h=>(h.r 3 rfl).2.1.symm) ?_
       refine Rf.iw (v:=.bool false) (fun X=>jG (xw d5 (by omega)) X) rfl rfl rfl rfl rfl rfl ?_
       refine Rf.aD aK 5 rfl ?_
       refine Rf.aI ?_
       refine Rf.l8 3 (oq (Dy.cut 1 v n9) 16 (-200) 712) rfl (fun w f h=>iK.dn (m:=m3) (e:=e4) h d5) ?_
       exact Rf.lC hc2 ⟨rfl,rfl,rfl,rfl,rfl,rfl,rfl,rfl,rfl,rfl,rfl,rfl,rfl,rfl,rfl,rfl,rfl,rfl,rfl,rfl,rfl,rfl,rfl,trivial⟩ ⟨rfl,rfl,rfl,trivial⟩ ⟨rfl,rfl,rfl,trivial⟩
     · refine Rf.aD aK 5 rfl ?_
       refine Rf.aI ?_
       refine Rf.l8 3 (oq (Dy.cut 1 v n9) 16 (-200) 712) rfl (fun w f h=>iK.dn (m:=m3) (e:=e4) h d5) ?_
       exact Rf.lC hc2 ⟨rfl,rfl,rfl,rfl,rfl,rfl,rfl,rfl,rfl,rfl,rfl,rfl,rfl,rfl,rfl,rfl,rfl,rfl,rfl,rfl,rfl,rfl,rfl,trivial⟩ ⟨rfl,rfl,rfl,trivial⟩ ⟨rfl,rfl,rfl,trivial⟩
 · intro hc1
   repeat refine Rf.aa ?_
   refine Rf.az (by kernel_rfl) ?_
   refine Rf.aD aK 4 rfl ?_
   refine Rf.iw (v:=.bool false) (fun X=>om (by decide) X) rfl rfl rfl rfl rfl rfl ?_
   refine Rf.aD aK 4 rfl ?_
   refine Rf.fA 3 _ _ rfl rfl rfl rfl rfl rfl (fun u X=>Pl.enters Tryz.func14 (by kernel_rfl) rfl u X) (fun α γ w h=>Dx 3 (sP (h.r 2 rfl) (by decide) (by decide) (by decide))) ?_
   refine Rf.oK (.bool false) rfl rfl rfl rfl rfl (fun X=>pI _ X) ?_
   refine Rf.aD aK 4 rfl ?_
   refine Rf.sO 2 rfl (fun m2 e3 d4=>?_)
   refine Rf.BQ ((limbs (Int.natAbs m2)).length) Tryz.underlying22 rfl rfl rfl rfl rfl rfl (fun w f h=>h.2.2.1) ?_
   refine Rf.ji (p:=(((limbs (Int.natAbs m2)).length:Nat):Int)>0) (BS _ _) rfl rfl rfl rfl rfl rfl (fun c5=>?_) (fun c5=>?_)
   · refine Rf.aD aK 4 rfl ?_
     refine Rf.oK (.int .i64 (-n9)) rfl rfl rfl rfl rfl (fun X=>eH (by omega) X) ?_
     refine Rf.xg 53 (.v (.int .i64 e3)) rfl (fun α γ w h=>(h.r 2 rfl).2.1.symm) ?_
     refine Rf.iw (v:=.bool false) (fun X=>jG (xw d4 (by omega)) X) rfl rfl rfl rfl rfl rfl ?_
     refine Rf.aD aK 4 rfl ?_
     refine Rf.aI ?_
     refine Rf.l8 2 (oq (Dy.cut 0 v n9) 16 (-200) 712) rfl (fun w f h=>iK.dn (m:=m2) (e:=e3) h d4) ?_
     exact Rf.lC hc1 ⟨rfl,rfl,rfl,rfl,rfl,rfl,rfl,rfl,rfl,rfl,rfl,rfl,rfl,rfl,rfl,rfl,rfl,rfl,trivial⟩ ⟨rfl,rfl,rfl,trivial⟩ ⟨rfl,rfl,trivial⟩
   · refine Rf.aD aK 4 rfl ?_
     refine Rf.aI ?_
     refine Rf.l8 2 (oq (Dy.cut 0 v n9) 16 (-200) 712) rfl (fun w f h=>iK.dn (m:=m2) (e:=e3) h d4) ?_
     exact Rf.lC hc1 ⟨rfl,rfl,rfl,rfl,rfl,rfl,rfl,rfl,rfl,rfl,rfl,rfl,rfl,rfl,rfl,rfl,rfl,rfl,trivial⟩ ⟨rfl,rfl,rfl,trivial⟩ ⟨rfl,rfl,trivial⟩
end Go.Proofs.YtdpmbgomcjnohaaGreatDoor
namespace Go.Proofs.YtdpmbgomcjnohaaGreatDoor
open Go.ChangeShapes Go.WideShapes Go.ChangeAt Go.RowKit
set_option linter.all false
set_option maxRecDepth 100000
set_option maxHeartbeats 8000000
theorem yB:Tryz.prog.cellsOf 24 = 2:=by kernel_rfl
theorem vo:Tryz.prog.cellsOf 22 = 1:=by kernel_rfl
theorem yC {H:Type} {enc:TypeId × Value→H} {W:World} {m:Nat} {c0 c1:Value} {y:DataW H × List MemPlace} (h:DataW.trod enc Tryz.prog W 0 (fun _=>true) true m 24 [c0,c1]=some y) :
  ∃ (s:Bool) (A:Option Addr) (c:Nat) (xs:List Nat),c0 = .bool s∧c1 = .slice A xs.length c∧U W (.slice A xs.length c) xs:=by
 obtain ⟨ys,n,_,rfl,hl,hlen,hf⟩:=DataW.trod_struct Tryz.underlying24 h
 match ys,hlen,hf with
 | [y0,y1],_,hf =>
  have h0:=hf 0 _ rfl
  have h1:=hf 1 _ rfl
  have cb:Tryz.prog.cellsOf 4 = 1:=by kernel_rfl
  simp [vo,cb] at h0 h1
  obtain ⟨s,e0,_⟩:=DataW.trod_bool Tryz.underlying4 h0
  obtain ⟨xs,u⟩:=jy h1
  obtain ⟨A,c,rfl,hu⟩:=id u
  simp at e0
  exact ⟨s,A,c,xs,e0,rfl,u⟩
end Go.Proofs.YtdpmbgomcjnohaaGreatDoor
namespace Go.Proofs.YtdpmbgomcjnohaaGreatDoor
open Go.ChangeShapes Go.WideShapes Go.ChangeAt Go.RowKit
set_option linter.all false
set_option maxRecDepth 100000
set_option maxHeartbeats 8000000
abbrev jI:List (String × DataW Unit):=[("math/bits.deBruijn32tab",Rows.laid_math_bits_deBruijn32tab),("ziggurat/ntt.fields",Rows.laid_ziggurat_ntt_fields)]
theorem sJ (os:Os) (args:Array Value):laidMetH Tryz.prog jI ((World.laidAll Tryz.prog os jI).forCall (fun _ _=>0) ⟨#[],args,[]⟩).memory:=by
 rw [MakeChecks.laidMetH_plain _ _ _ (by kernel_rfl)]
 exact laidMet_laidAll _ (by kernel_rfl) (by kernel_rfl)
theorem Zh:Tryz.prog.globalNamed "math/bits.deBruijn32tab" = some 0:=by kernel_rfl
theorem Zi:(Tryz.prog.globals[0]?).map (·.type)=some 121 := by kernel_rfl
theorem BJ:Tryz.prog.cellsOf 5 = 1:=by kernel_rfl
theorem wX:Tryz.prog.cellsOf 121 = 32:=by kernel_rfl
theorem ou {W:World} (h:laidMetH Tryz.prog jI W):Gt W:=by
 rw [MakeChecks.laidMetH_plain _ _ _ (by kernel_rfl)] at h
 obtain ⟨ps,⟨g0,t0,cs0,f0,p0,q0,hg0,ht0,hv0,hd0,_,_⟩,_⟩:=h
 obtain rfl:=Option.some.inj (Zh.symm.trans hg0)
 obtain rfl:=Option.some.inj (Zi.symm.trans ht0)
 obtain ⟨xs,m1,rfl,hx1,hlen,Zj,hel⟩:=DataW.trod_array Tryz.underlying121 hd0
 rw [wX] at hlen
 simp only [BJ] at hel
 obtain ⟨l⟩:=cs0
 rw [Prod.mk.injEq] at hx1
 have hx2:DataW.agg (Hf.map fun n=>DataW.lit (Lit.int .u8 ((n:Nat):Int)))=DataW.agg (xs.map (·.1)):=hx1.1
 rw [DataW.agg.injEq] at hx2
 have hc:=fun k=>World.var?_cell hg0 hv0 k
 have hall:∀ i,i<32→W.cell? ⟨0,i,none⟩=some (.int .u8 ((lb Hf i:Nat):Int)):=by
  intro i hi
  have e:=hel i hi
  have hxi:i<xs.length:=by omega
  have VF:i<l.length:=by have:l.length=32:=hlen;omega
  have hdi:i<Hf.length:=hi
  rw [List.getElem?_eq_getElem hxi,Nat.mul_one,List.drop_eq_getElem_cons VF] at e
  simp only [List.take_succ_cons,List.take_zero] at e
  obtain ⟨a,e0,hy,_⟩:=DataW.trod_int Tryz.underlying5 e
  have h1:=congrArg (fun q=>q[i]?) hx2
  simp only [List.getElem?_map,List.getElem?_eq_getElem hxi,List.getElem?_eq_getElem hdi,Option.map_some,Option.some.injEq,hy,DataW.lit.injEq,Lit.int.injEq,true_and] at h1
  have h2:lb Hf i=Hf[i]:=by unfold lb;rw [List.getElem?_eq_getElem hdi];rfl
  rw [h2,h1]
  have h3:=hc i
  simp only [List.cons.injEq,and_true] at e0
  rw [← e0]
  exact h3.trans (by simp [VF])
 exact ⟨World.block_lt_of_cell? W ⟨0,0,none⟩ (hall 0 (by decide)),hall⟩
end Go.Proofs.YtdpmbgomcjnohaaGreatDoor
namespace Go.Proofs.YtdpmbgomcjnohaaGreatDoor
open Go.ChangeShapes Go.WideShapes Go.ChangeAt Go.RowKit
set_option linter.all false
set_option maxRecDepth 100000
set_option maxHeartbeats 8000000
theorem BK {H:Type} {enc:TypeId × Value→H} {W:World} {base:Nat} {v:Value} {d:DataW H} {ps:List MemPlace} (hval:Value.okWide Tryz.prog W .any base 41 v) (h:DataW.Trod enc Tryz.prog W 0 (fun _=>true) true 41 v d ps) :
  ∃ (s:Bool) (A:Option Addr) (c:Nat) (xs:List Nat) (D:Option Addr) (d:Nat) (ys:List Nat),v = .agg #[.bool s,.slice A xs.length c,.slice D ys.length d]∧U W (.slice A xs.length c) xs∧U W (.slice D ys.length d) ys:=by
 obtain ⟨cs,rfl,hsz⟩:=okWide_struct Tryz.underlying41 hval
 rw [show Tryz.prog.cellsOf 41 = 3 by kernel_rfl] at hsz
 obtain ⟨l⟩:=cs
 match l,hsz with
 | [c0,c1,c2],_ =>
  obtain ⟨fuel,hf⟩:=h
  obtain ⟨ys,n,_,YB,hl,hlen,hf⟩:=DataW.trod_struct Tryz.underlying41 hf
  match ys,hlen,hf with
  | [y0,y1],_,hf =>
   have h0:=hf 0 _ rfl
   have h1:=hf 1 _ rfl
   simp [yB,vo] at h0 h1
   obtain ⟨s,A,c,xs,rfl,rfl,u⟩:=yC h0
   obtain ⟨zs,u2⟩:=jy h1
   obtain ⟨D,d,rfl,hu⟩:=id u2
   exact ⟨s,A,c,xs,D,d,zs,rfl,u,u2⟩
end Go.Proofs.YtdpmbgomcjnohaaGreatDoor
namespace Go.Proofs.YtdpmbgomcjnohaaGreatDoor
open Go.ChangeShapes Go.WideShapes Go.ChangeAt Go.RowKit
set_option linter.all false
set_option maxRecDepth 100000
set_option maxHeartbeats 8000000
theorem yH (os:Os) (started:os.Started) (H:Type) (enc:TypeId × Value→H) :
  ReturnsInHanded {} Tryz.checked os 8 .any (fun w args=>(Rows.dyadSidesSpec.pre enc Tryz.prog Tryz.f8 [] false w args∧laidMetH Tryz.prog jI w)∧sizedMet enc Tryz.prog Tryz.f8 (OpenSpec.ofChange Rows.dyadSidesSpec) false w args)
   (Rows.dyadSidesSpec.post enc Tryz.prog Tryz.f8 false true false false):=by
 refine returnsInHanded_of_change_and (C:=Tryz.checked) (X:=fun w _=>laidMetH Tryz.prog jI w) (fun _ _ _ hh h=>h.of_heap hh) own started (by kernel_rfl) Tryz.func8
  (ChangeSpec.witness_shaped (enc:=enc) (C:=Tryz.checked) (os:=os) (X:=fun w _=>laidMetH Tryz.prog jI w) false (World.laidAll Tryz.prog os jI) #[.agg #[.bool false,.slice none 0 0,.slice none 0 0],.int .u16 0] 8 (World.laidAll_os _ _ _) (World.shaped_of_ZipB (by kernel_rfl) (by kernel_rfl)) (by kernel_rfl) (by kernel_rfl) (by kernel_rfl) (sJ os _)) ?_
 intro W base args ds gs before hval0 hW _ _ hL _
 have hval:∀ (j:Nat) t v,Tryz.f8.params[j]?=some t→args[j]?=some v→Value.okWide Tryz.prog W .any base t v:=hval0
 have hW':=hW
 obtain ⟨p,q,E5,hV,rfl,hfz,hnd⟩:=hW
 have hA:DataW.TrodAll enc Tryz.prog W 0 (fun _=>true) true Tryz.f8.params.toList args.toList ds p:=E5
 rw [Tryz.params8] at hA hval
 clear E5 hval0
 obtain ⟨v0,vs0,d0,ds0,p0,q0,Py,rfl,rfl,h0,r0⟩:=trodAll_cons hA
 obtain ⟨v1,vs1,d1,ds1,p1,q1,BL,rfl,rfl,h1,r1⟩:=trodAll_cons r0
 obtain ⟨hn1,rfl,rfl⟩:=trodAll_nil r1
 subst hn1
 subst BL
 obtain rfl:args=#[v0,v1]:=by cases args;simp_all
 obtain ⟨rfl,rfl⟩:=trodVars_none hV
 obtain ⟨s0,A0,c0,x0,D0,b0,y0,hv0,u0,t0⟩:=BK (hval 0 41 v0 rfl rfl) h0
 subst hv0
 obtain ⟨z1,rfl,rfl,rfl,hz1⟩:=open_int Tryz.underlying61 (hval 1 61 v1 rfl rfl) h1
 have hb1:=bounds_u16 hz1
 obtain ⟨n1,rfl⟩:=Int.eq_ofNat_of_zero_le (show 0≤z1 by omega)
 refine (BZ W (ou hL) s0 A0 c0 x0 D0 b0 y0 u0 t0 n1 (by omega)).mono fun e W' ⟨he,hB⟩=>?_
 subst he
 exact ⟨_,rfl,rR hW' rfl (by rw [Tryz.params8];decide +kernel) rfl rfl rfl rfl hB⟩
theorem Ca:Rows.DyadSidesSaid :=
 OpenClaim.holds_of_wide 8 Tryz.f8 rfl rfl rfl rfl rfl rfl rfl ⟨rfl,rfl,rfl,rfl,rfl⟩ rfl rfl rfl rfl rfl (by kernel_rfl) Tryz.func8 (by kernel_rfl)
  (of_decide_eq_true (by kernel_rfl)) (by unfold Func.isWrapper;first | (rw [if_pos (by decide +kernel)];kernel_rfl) | (rw [if_neg (by decide +kernel)];exact ⟨rfl,rfl⟩))
  (fun os started H enc _=>yH os started H enc)
theorem dyadSides_holds:Rows.DyadSidesCardSaid :=
 Claim7.holds_tied_plain_at .later [] [.data,.wider] true Rows.dyadSidesCard.stood.harness false
  Ca (fun _ h=>by cases h) (by kernel_rfl) (fun _ h=>by cases h) dyadSides_row_tie rfl ⟨rfl,rfl⟩ (by kernel_rfl) rfl
  (fun f fn hf hfn=>by
   obtain rfl:f = 8 := Option.some.inj ((show Tryz.prog.funcNamed "ziggurat/zigguratlaw10.DyadSides" = some 8 by kernel_rfl).symm.trans hf) |>.symm
   obtain rfl:fn=Tryz.f8 := (Option.some.inj (Tryz.func8.symm.trans hfn)).symm
   exact ⟨by kernel_rfl,fun j t ht=>by
    rw [Tryz.params8] at ht
    have hm:t∈[41,61]:=by simpa using Array.mem_of_getElem? ht
    have hall:([41,61].all fun u=>!Tryz.prog.wantsStandIn u)=true:=by kernel_rfl
    exact (show Tryz.prog.wantsStandIn t=false by simpa using List.all_eq_true.1 hall t hm)⟩)
  (by kernel_rfl)
end Go.Proofs.YtdpmbgomcjnohaaGreatDoor
