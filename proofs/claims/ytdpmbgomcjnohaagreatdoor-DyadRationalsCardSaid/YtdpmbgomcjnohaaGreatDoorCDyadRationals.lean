/- DyadRationals, and what it leans on beyond the base. -/
import Derived.Test.YtdpmbgomcjnohaaGreatDoorBaa
import Derived.Test.YtdpmbgomcjnohaaGreatDoorBab
import Derived.Test.YtdpmbgomcjnohaaGreatDoorBag
import Derived.Test.YtdpmbgomcjnohaaGreatDoorBad
import Derived.Test.YtdpmbgomcjnohaaGreatDoorBaj
import Derived.Test.YtdpmbgomcjnohaaGreatDoorBai
import Derived.Test.YtdpmbgomcjnohaaGreatDoorBap
import Derived.Test.YtdpmbgomcjnohaaGreatDoorBaq
import Derived.Test.YtdpmbgomcjnohaaGreatDoorBas
import Derived.Test.YtdpmbgomcjnohaaGreatDoorBar
import Derived.Test.YtdpmbgomcjnohaaGreatDoorBat
import Derived.Test.YtdpmbgomcjnohaaGreatDoorBac
import Derived.Test.YtdpmbgomcjnohaaGreatDoorBav
import Derived.Test.YtdpmbgomcjnohaaGreatDoorBau
import Derived.Test.YtdpmbgomcjnohaaGreatDoorBax
import Derived.Test.YtdpmbgomcjnohaaGreatDoorBbb
import Derived.Test.YtdpmbgomcjnohaaGreatDoorBba
import Derived.Test.YtdpmbgomcjnohaaGreatDoorBbc
import Derived.Test.YtdpmbgomcjnohaaGreatDoorBam
import Derived.Test.YtdpmbgomcjnohaaGreatDoorBbe
import Derived.Deep.MidRow
import Derived.Deep.WholeRow
import Derived.Laws.CopyOwn
import Derived.WalkKit
import Derived.SevenTiedAt
import Derived.LaidMore
import Derived.Stop.Joined
import Derived.JoinedOf
import Derived.JoinedAt
import Derived.Lib.SmallJoins
import Derived.Deep.RegionHeld3
import Derived.Scope
import Derived.Lib.SlTrimSet
import Derived.Lib.Bytealg
import Derived.Laws.Concat
import Derived.Lay
import Derived.LaidOnce

namespace Go.Proofs.YtdpmbgomcjnohaaGreatDoor.Pl
open Go
set_option linter.all false
set_option maxRecDepth 100000
set_option maxHeartbeats 8000000
/-! A function without loops, walked with its frame as a list of what is known. -/
section
variable {P:Program} {Q:Exit→Act→World→Prop} {n:Nat} {ds:List Deferred} {cs:List Code} {l:List (Nat × Value)} {w:World} {x y:Code}
theorem aW {L:List Oper} {S:World→Prop} {f M:Nat} {Q:Exit→Act→World→Prop} (l':List (Nat × Value)) (hl:EB l l') (h:G P L S Q n ds f M l' w):G P L S Q n ds f M l w:=fun a listed ha hL hS=>h a listed (ha.less (rJ hl)) hL hS
theorem fP {L:List Oper} {S:World→Prop} {g M:Nat} {Q:Exit→Act→World→Prop} (f e:Nat) (R:List (Nat × Value)→World→Prop) (h1:∀ l' w',R l' w'→G P L S Q n ds f e l' w') (h2:(∀ l' w',R l' w'→G P L S Q n ds f e l' w')→G P L S Q n ds g M l w):G P L S Q n ds g M l w:=h2 h1
open Classical in
end
section
variable {P:Program} {L:List Oper} {S:World→Prop} {K:List (Nat × Value)→World→Prop} {k:Bool} {i m d:Nat} {o:Oper} {r:List (Bool × Nat × Nat)} {l:List (Nat × Value)} {w w':World} {v:Value}
end
end Go.Proofs.YtdpmbgomcjnohaaGreatDoor.Pl
namespace Go.Proofs.YtdpmbgomcjnohaaGreatDoor.Pl
open Go
set_option linter.all false
set_option maxRecDepth 100000
set_option maxHeartbeats 8000000
/-! Steps for any program: numbers, slices, memory. -/
section
variable {P:Program} {T:TypeId} {x y:Operand} {k k':IntKind} {a b c:Int} {v:Bool}
theorem wD (h0:b≠0) (h:a.tmod b=c) (X:World):Bn P .rem T x y (.int k a) (.int k b) X = .ok (.int k c) X:=by
 subst h;simp [Bn,eqGuard,binOp,Op.intDiv,h0]
end
section
variable {P:Program} {T:TypeId} {x y:Operand} {a b c:Nat}
end
/-! Operations whose value follows from what is known alone. -/
section
variable {P:Program} {L:List Oper} {S:World→Prop} {K:List (Nat × Value)→World→Prop} {k:Bool} {i m d:Nat} {o:Oper} {r:List (Bool × Nat × Nat)} {l:List (Nat × Value)} {w w':World} {v:Value}
end
end Go.Proofs.YtdpmbgomcjnohaaGreatDoor.Pl
namespace Go.Proofs.YtdpmbgomcjnohaaGreatDoor
open Go.ChangeShapes Go.WideShapes Go.ChangeAt Go.RowKit
set_option linter.all false
set_option maxRecDepth 100000
set_option maxHeartbeats 8000000
theorem laidOut:laidOutB Tryz.prog=true:=by kernel_rfl
theorem rY:Tryz.prog.cellsOf 67 = 1:=by kernel_rfl
theorem gZ {H:Type} {enc:TypeId × Value→H} {W W':World} {sp:Nat→Bool} (hB:Ext W W'):∀ {ts:List TypeId} {vs:List Value} {ds:List (DataW H)} {ps:List MemPlace},
  (∀ t∈ts,Tryz.prog.readableRec t=true∧t<Tryz.prog.types.size)→DataW.TrodAll enc Tryz.prog W 0 (fun _=>true) true ts vs ds ps→(∀ p∈ps,p.block<W.heap.size)→(∀ p∈ps,sp p.block=true)→DataW.TrodAll enc Tryz.prog W' 0 sp true ts vs ds ps
 | [],[],[],_,_,h,_,_=>h
 | t::_,_::_,_::_,_,hT,⟨p,q,h1,h2,e⟩,hlt,hs=>⟨p,q,
  WideElems.Trod_stays laidOut (hT t (List.mem_cons_self ..)).1 (hT t (List.mem_cons_self ..)).2 h1 (fun x hx=>Below.same hB (hlt x (by rw [e];exact List.mem_append_left _ hx))) (fun x hx=>hs x (by rw [e];exact List.mem_append_left _ hx)),
  gZ hB (fun t ht=>hT t (List.mem_cons_of_mem _ ht)) h2 (fun x hx=>hlt x (by rw [e];exact List.mem_append_right _ hx)) (fun x hx=>hs x (by rw [e];exact List.mem_append_right _ hx)),e⟩
theorem qC {H:Type} {enc:TypeId × Value→H} {f:Func} {s:ChangeSpec} {apart fresh handsOn again:Bool} {W W':World} {args:Array Value} {ds gs:List (DataW H)} {before:List MemPlace}
  (hW:DataW.Whole enc Tryz.prog f.params.toList s.vars apart W args.toList ds gs before) (hv:s.vars=[]) (hT:∀ t∈f.params.toList,Tryz.prog.readableRec t=true∧t<Tryz.prog.types.size)
  (hres:f.resultTypes=#[4]) (hfn:(s.fn H (ds++gs)).results=[.lit (.bool true)]) (hfa:(s.fn H (ds++gs)).args=ds) (Qr:(s.fn H (ds++gs)).vars=[]) (hB:Ext W W') :
  s.post enc Tryz.prog f apart fresh handsOn again W args (.bool true) W':=by
 have hlt:∀ p∈before,p.block<W.heap.size:=fun p hp=>hW.lt p hp
 have hold:∀ p∈before,(fun b=>decide (b<W.heap.size)) p.block=true:=fun p hp=>by simpa using hlt p hp
 have hres':∀ (b:Nat) (sp:Nat→Bool) (hd:Bool),DataW.TrodAll enc Tryz.prog W' b sp hd f.resultTypes.toList ((Value.bool true).resultList f.resultTypes.size) (s.fn H (ds++gs)).results []:=by
  intro b sp hd
  rw [hres,hfn]
  exact trodAll_mk1 (shut_bool Tryz.underlying4 _)
 have hW2:=hW
 obtain ⟨p,q,hA,hV,hpq,hz,hn⟩:=hW
 rw [hv] at hV
 obtain ⟨_,rfl⟩:=trodVars_none hV
 rw [List.append_nil] at hpq
 subst hpq
 have hargs:∀ sp:Nat→Bool,(∀ p'∈before,sp p'.block=true)→DataW.TrodAll enc Tryz.prog W' 0 sp true f.params.toList args.toList (s.fn H (ds++gs)).args before:=fun sp hs=>by
  rw [hfa];exact gZ hB hT hA hlt hs
 have hvars:∀ sp:Nat→Bool,DataW.TrodVars enc Tryz.prog W' sp s.vars (s.fn H (ds++gs)).vars []:=fun sp=>by rw [hv,Qr];exact rfl
 refine ⟨ds,gs,before,[],before,[],hW2,hres' _ _ _,hargs _ hold,hvars _,World.keptBut_mono (fun p hp=>⟨hp,?_⟩) (Below.frame hB (·∈before)),fun _=>?_⟩
 · simpa using hp
 · refine ⟨ok_one hres rfl (okWide_bool_mk Tryz.underlying4 _),_,_,([]++before)++[],⟨[]++before,[],trodAll_append (hargs _ (fun _ _=>rfl)) (hres' _ _ _),hvars _,rfl,?_,?_⟩,?_⟩
   · intro b off hp
     have hin:MemPlace.cell b off∈before:=by simpa using hp
     rw [Below.frozen hB (hlt _ hin)]
     exact hz b off hin
   · intro ha
     have:=hn ha
     simpa using this
   · intro p hp _
     simpa using hp
end Go.Proofs.YtdpmbgomcjnohaaGreatDoor
namespace Go.Proofs.YtdpmbgomcjnohaaGreatDoor
open Go.ChangeShapes Go.WideShapes Go.ChangeAt Go.RowKit
set_option linter.all false
set_option maxRecDepth 100000
set_option maxHeartbeats 8000000
theorem kJ {H:Type} {enc:TypeId × Value→H} {W:World} {fuel:Nat} {v:Value} {y:DataW H × List MemPlace} (hf:DataW.trod enc Tryz.prog W 0 (fun _=>true) true fuel 22 [v]=some y) :
  ∃ xs:List Nat,U W v xs:=by
 rcases open_ints Tryz.underlying22 Tryz.underlying67 rY hf with ⟨hcs,hx⟩ | ⟨a,len,cap',zs,hcs,_,hl,hm,hz,hx,hcell,hwz⟩
 · simp at hcs
   subst hcs
   exact ⟨[],U.AU _ _ _⟩
 · simp at hcs
   subst hcs
   simp only [if_true] at hz
   have hlen:((zs.take len).map Int.toNat).length=len:=by simp;omega
   have hb:∀ z∈zs,0≤z∧z<4294967296:=fun z hzz=>by have:=bounds_u32 (hwz z hzz);omega
   refine ⟨(zs.take len).map Int.toNat,some a,cap',by rw [hlen],⟨by rw [hlen];exact hl,by rw [hlen];unfold maxLen at hm;omega⟩,?_,fun h0=>⟨a,rfl,?_,fun j hj=>?_⟩⟩
   · intro x hx'
     obtain ⟨z,hz1,rfl⟩:=List.mem_map.1 hx'
     have:=hb z (List.mem_of_mem_take hz1)
     omega
   · rw [hlen] at h0
     have hc:=hcell 0 (by omega)
     rw [lX] at hc
     unfold World.cell? at hc
     rcases Nat.lt_or_ge a.block W.heap.size with h | h
     · exact h
     · rw [Array.getElem?_eq_none h] at hc;cases hc
   · rw [hlen] at hj
     have hjz:j<zs.length:=by omega
     have e:lb ((zs.take len).map Int.toNat) j=(zs.getD j 0).toNat:=by
      simp [lb,hj,hjz]
     rw [hcell j hjz,e]
     have hmem:zs.getD j 0∈zs:=by simp [hjz]
     have:=hb _ hmem
     rw [show (((zs.getD j 0).toNat:Nat):Int)=zs.getD j 0 by omega]
end Go.Proofs.YtdpmbgomcjnohaaGreatDoor
namespace Go.Proofs.YtdpmbgomcjnohaaGreatDoor
open Go.RowKit
set_option linter.all false
set_option maxRecDepth 100000
set_option maxHeartbeats 8000000
def gN (xs:List Nat) (k:Nat):Nat:=val (xs.take k)
theorem kW (xs:List Nat) (k:Nat) (hx:∀ x∈xs,x<4294967296):(limbs (gN xs k)).length≤k:=by
 apply lJ
 have:=wE (xs.take k) (fun x h=>hx x (List.mem_of_mem_take h))
 refine Nat.lt_of_lt_of_le this (Nat.pow_le_pow_right (by decide) ?_)
 rw [List.length_take];omega
theorem ni (w:World) (v:Value) (xs:List Nat) (k:Int) (hk0:0≤k) (hk1:k≤1000000000) (h:U w v xs) :
  Calls Tryz.prog 63 #[v,.int .i64 k] w fun e w'=>(∃ u,e = .returned u∧Un w' u (gN xs k.toNat))∧Below w.heap.size w w':=by
 have h':=h
 obtain ⟨A,c,rfl,⟨hc,hm⟩,hx,hr⟩:=h
 clear hr
 by_cases hl:(xs.length:Int)≤k
 · have hu:=fG w _ xs h' (by omega)
   have HT:Hid (xs.take k.toNat=xs):=List.take_of_length_le (by omega)
   have hmin:min (xs.length:Int) k=xs.length:=by omega
   go_enter Tryz.func63,Tryz.ntmps63
   go_wp2_with (go_at_call 100;refine hu.mono ?_;rintro e w' ⟨⟨z,rfl,hz⟩,hB⟩)
   go_ret
   exact ⟨⟨_,rfl,by rw [Un,gN,HT.out];exact hz⟩,hB⟩
 · obtain ⟨k,rfl⟩:=Int.eq_ofNat_of_zero_le hk0
   have hu:=fG w _ _ (h'.take (k:=k) (c':=c) (by omega) (by omega)) (by rw [List.length_take];omega)
   have hmin:min (xs.length:Int) (k:Int)=k:=by omega
   go_enter Tryz.func63,Tryz.ntmps63
   go_wp2_with (go_at_call 100;refine hu.mono ?_;rintro e w' ⟨⟨z,rfl,hz⟩,hB⟩)
   go_ret
   exact ⟨⟨_,rfl,by rw [Un,gN,Int.toNat_natCast];exact hz⟩,hB⟩
end Go.Proofs.YtdpmbgomcjnohaaGreatDoor
namespace Go.Proofs.YtdpmbgomcjnohaaGreatDoor
open Go.RowKit
set_option linter.all false
set_option maxRecDepth 100000
set_option maxHeartbeats 8000000
theorem uh (w:World) (v:Value) (xs:List Nat) (k:Int) (h:U w v xs) (hk0:0≤k) (hk1:k≤1000000000) (n:Nat) (hn:gN xs k.toNat=n) :
  Calls Tryz.prog 63 #[v,.int .i64 k] w fun e w'=>∃ u,e = .returned u∧Un w' u n∧Ext w w':=by
 subst hn
 exact (ni w v xs k hk0 hk1 h).mono fun e w' ⟨⟨u,he,hu⟩,hb⟩=>⟨u,he,hu,hb⟩
end Go.Proofs.YtdpmbgomcjnohaaGreatDoor
namespace Go.Proofs.YtdpmbgomcjnohaaGreatDoor
open Go.RowKit
set_option linter.all false
set_option maxRecDepth 100000
set_option maxHeartbeats 8000000
theorem oG (w:World) (va vb:Value) (jw bs:List Nat) (na nb:Nat) (ha:U w va jw) (hb:U w vb bs) (hna:jw.length=na) (hnb:bs.length=nb) (hn1:na≤1000) (hn2:nb≤1000) :
  Calls Tryz.prog 143 #[va,vb] w fun e w'=>(∃ u,e = .returned u∧Un w' u (val jw*val bs))∧Ext w w':=by
 obtain ⟨A,ca,rfl,⟨hca,hma⟩,hxl,OP⟩:=id ha
 obtain ⟨A2,cb,rfl,⟨hcb,hmb⟩,hyl,OQ⟩:=id hb
 have HL:Hid (jw.length=na∧bs.length=nb):=⟨hna,hnb⟩
 have VO:=Lib.hid (fun k=>kX bs k)
 have VP:=Lib.hid (fun k=>kX jw k)
 have HT2:Hid (bs.take nb=bs∧jw.take na=jw):=⟨by rw [← hnb];exact List.take_length,by rw [← hna];exact List.take_length⟩
 rw [hna] at hca hma OP ⊢
 rw [hnb] at hcb hmb OQ ⊢
 obtain ⟨n,hnn⟩:∃ n,na+nb=n:=⟨_,rfl⟩
 have hni:(na:Int)+(nb:Int)=(n:Int):=by omega
 obtain ⟨i0,hi,hz0,hz1,hz2⟩:=info_parts y7
 obtain ⟨B,hB⟩:∃ B,w.heap.size=B:=⟨_,rfl⟩
 have E9:=Lib.hid hB
 clear ha hb hna hnb
 go_enter Tryz.func143,Tryz.ntmps143
 go_wp2_with (at_make;refine wpList_make_full _ rfl _ _ 22 rfl w.heap.size 67 i0 (.int .u32 0) 1 Tryz.underlying22 hi hz0 hz1 _ _ _ _ n rfl rfl (by omega) (by omega) (by rw [hz2];omega) (by unfold maxLen;omega) (Nat.le_refl _) ?_;intro w1 hown hgrow)
 have ho0:Own w1 w.heap.size (.slice (some ⟨w.heap.size,0,none⟩) n n) (List.replicate n 0):=by
  have:=Own.zeros hown
  rwa [List.length_replicate] at this
 have hE0:Ext w w1:=(Ext.refl w).grown hgrow (Nat.le_refl _) (fun _ h=>by cases h)
 rw [hB] at ho0
 clear hown hgrow hi hz0 hz1 hz2 i0
 have hS0:Hid (Oe bs jw n 0 (List.replicate n 0)):=⟨by simp,fun x hx=>by simp at hx;omega,by simp [jJ,val],fun m _=>oN _ _⟩
 go_wp2
 go_loopw [6] (fun t wr=>∃ (i:Nat) (o:List Nat),i≤na∧t = .int .i64 (i:Nat)∧Hid (Oe bs jw n i o)∧Own wr B (.slice (some ⟨B,0,none⟩) n n) o∧Ext w wr) (fun t _=>na-(intOf t).toNat)
 case atStart=>exact ⟨0,_,Nat.zero_le _,rfl,hS0,ho0,hE0⟩
 case round =>
  clear hS0 ho0 hE0
  obtain ⟨i,o,hib,rfl,HO,hown,hE⟩:=hrel
  by_cases hlt:i<na
  · obtain ⟨ad,rfl,hb1,hcell1⟩:=OP (by omega)
    have hyb:=iV hxl i
    have hty:=VP.out i (by rw [HL.out.1];exact hlt)
    obtain ⟨y,DN⟩:∃ y,lb jw i=y:=⟨_,rfl⟩
    rw [DN] at hyb hty
    have HY:=Lib.hid DN
    have OT:Hid (QA o n i (val o+LB^i*(val (bs.take 0)*y)) 0 o 0):=⟨HO.out.len,HO.out.lt,by decide,by simp [val],fun m _=>rfl⟩
    have Dc:Hid (val (jw.take (i+1))=val (jw.take i)+LB^i*y):=hty
    have hno:Hid (lb o (i+nb)=0):=HO.out.out _ (by rw [HL.out.2];exact Nat.le_refl _)
    clear DN hty
    go_wp2
    go_loopw [8,7] (fun t s wx=>∃ (j:Nat) (o2:List Nat) (cy:Nat),j≤nb∧t = .int .i64 (j:Nat)∧s = .int .u64 (cy:Nat)∧Hid (QA o n i (val o+LB^i*(val (bs.take j)*y)) j o2 cy)∧Own wx B (.slice (some ⟨B,0,none⟩) n n) o2∧Ext w wx) (fun t _ _=>nb-(intOf t).toNat)
    case atStart=>exact ⟨0,o,0,Nat.zero_le _,rfl,rfl,OT,hown,hE⟩
    case round =>
     clear OT hown hE
     obtain ⟨j,o2,cy,hj,rfl,rfl,HW,hown,hE⟩:=hrel
     by_cases hjt:j<nb
     · obtain ⟨Mi,rfl,hb2,hcell2⟩:=OQ (by omega)
       have hc0:=(hE.cell (p:=ad.add i) (by rw [cZ];exact hb1)).trans (hcell1 i hlt)
       rw [HY.out] at hc0
       have hc1:=(hE.cell (p:=Mi.add j) (by rw [cZ];exact hb2)).trans (hcell2 j hjt)
       have hxb:=iV hyl j
       have htk:=VO.out j (by rw [HL.out.2];exact hjt)
       have hcz:=hown.rd.2 (i+j) (by rw [HW.out.len];omega)
       have hf:=hown.frozen' (i+j)
       have hzb:=iV HW.out.lt (i+j)
       have hcy:=HW.out.GY
       obtain ⟨x,CR⟩:∃ x,lb bs j=x:=⟨_,rfl⟩
       rw [CR] at hc1 hxb htk
       obtain ⟨z,hzz⟩:∃ z,lb o2 (i+j)=z:=⟨_,rfl⟩
       rw [hzz] at hcz hzb
       obtain ⟨t,ht⟩:∃ t,x*y=t:=⟨_,rfl⟩
       have ht1:t≤18446744065119617025:=by rw [← ht];exact Mj hxb hyb
       have hti:(y:Int)*(x:Int)=(t:Int):=by rw [← ht,Int.natCast_mul,Int.mul_comm]
       obtain ⟨u,hu⟩:∃ u,cy+(t+z)=u:=⟨_,rfl⟩
       obtain ⟨s,hs⟩:∃ s,u%4294967296=s:=⟨_,rfl⟩
       obtain ⟨d,hd⟩:∃ d,u/4294967296=d:=⟨_,rfl⟩
       obtain ⟨hm,hsb,hdb,hub,htz⟩:=yU t z cy s d u ht1 hzb hcy hu hs hd
       have hst:=HW.out.step (by omega) t s d (by rw [hzz];exact hm) hsb hdb
       rw [Nat.add_assoc (val o),Nat.pow_add,Nat.mul_assoc,← Nat.mul_add,← ht,← Nat.mul_assoc,← Nat.add_mul,← htk] at hst
       have HST:=Lib.hid hst
       have hown2:=hown.set' (i+j) s
       have hE2:=hE.setCell (p:=⟨B,i+j,none⟩) (by rw [E9.out];exact Nat.le_refl _) (.int .u32 (s:Nat))
       have q1:IntKind.u64.wrap (t:Int)=(t:Int):=by rw [IntKind.wrap_u64];omega
       have q2:IntKind.u64.wrap ((t:Int)+(z:Int))=(t:Int)+(z:Int):=by rw [IntKind.wrap_u64];omega
       have q3:(t:Int)+(z:Int)+(cy:Int)=(u:Int):=by omega
       have q4:IntKind.u64.wrap (u:Int)=(u:Int):=by rw [IntKind.wrap_u64];omega
       have q5:IntKind.u32.wrap (u:Int)=(s:Int):=by rw [IntKind.wrap_u32];omega
       have q6:(u:Int)%4294967296=(s:Int):=by omega
       have q7:(u:Int)/4294967296=(d:Int):=by omega
       have q8:IntKind.u64.wrap (x:Int)=(x:Int):=by rw [IntKind.wrap_u64];omega
       have q9:IntKind.u64.wrap (y:Int)=(y:Int):=by rw [IntKind.wrap_u64];omega
       have q10:IntKind.u64.wrap (z:Int)=(z:Int):=by rw [IntKind.wrap_u64];omega
       have q11:(u:Int)%18446744073709551616=(u:Int):=by omega
       have q12:(t:Int)%18446744073709551616=(t:Int):=by omega
       have q13:((t:Int)+(z:Int))%18446744073709551616=(t:Int)+(z:Int):=by omega
       have q14:IntKind.i64.wrap ((i:Int)+(j:Int))=(i:Int)+(j:Int):=IntWalk.i64_in _ (by omega)
       have q15:(0:Int)≤(i:Int)+(j:Int):=by omega
       have q16:(i:Int)+(j:Int)<(n:Int):=by omega
       have q17:((i:Int)+(j:Int)).toNat=i+j:=by omega
       have q18:(0:Int)≤(i:Int):=by omega
       have q19:(i:Int)<(na:Int):=by omega
       have q20:(0:Int)≤(j:Int):=by omega
       have q21:(j:Int)<(nb:Int):=by omega
       clear hst htk CR hzz ht hu hs hd hm HW hxb hzb ht1 hcy hown2 hE2
       have HOWN:=Lib.hid hown
       have Z4:=Lib.hid hE
       clear hown hE
       go_wp2_with (fail)
       go_quiet (fail)
       have hown2:=(HOWN.out.ext (oZ wr nq)).set' (i+j) s
       have hE2:=(Z4.out.below (oZ wr nq)).setCell (p:=⟨B,i+j,none⟩) (by rw [E9.out];exact Nat.le_refl _) (.int .u32 (s:Nat))
       go_wp2
       go_roundw
       case rel=>exact ⟨j+1,_,d,by omega,by go_num,rfl,HST,hown2,hE2⟩
       case measure=>simp [intOf];omega
     · obtain rfl:j=nb:=by omega
       have hcz:=hown.rd.2 (i+j) (by rw [HW.out.len];omega)
       have hf:=hown.frozen' (i+j)
       have hl0:lb o2 (i+j)=0:=by rw [HW.out.out _ (Nat.le_refl _)];exact hno.out
       have hws:=yf o2 (i+j) cy (by rw [HW.out.len];omega)
       rw [hl0,Nat.mul_zero,Nat.add_zero,HW.out.val,HT2.out.1] at hws
       have Bc:(Value.int .u32 (lb o2 (i+j):Nat)) = .int .u32 0:=by rw [hl0];rfl
       rw [Bc] at hcz
       have De:=HW.out.GY
       have q5:IntKind.u32.wrap (cy:Int)=(cy:Int):=by rw [IntKind.wrap_u32];omega
       have q6:(cy:Int)%4294967296=(cy:Int):=by omega
       have hown2:=hown.set' (i+j) cy
       have hE2:=hE.setCell (p:=⟨B,i+j,none⟩) (by rw [E9.out];exact Nat.le_refl _) (.int .u32 (cy:Nat))
       have HST:Hid (Oe bs jw n (i+1) (o2.set (i+j) cy)):=by
        refine ⟨by rw [List.length_set];exact HW.out.len,lT HW.out.lt De,?_,fun m hm=>?_⟩
        · rw [hws,Dc.out,Nat.mul_add,← HO.out.val,Nat.mul_left_comm]
        · rw [HL.out.2] at hm
          rw [jf _ (by omega),HW.out.out _ (by omega)]
          exact HO.out.out m (by rw [HL.out.2];omega)
       have g12:(i:Int)+(j:Int)<(n:Int):=by omega
       have g13:i+j<n:=by omega
       clear hl0 hws Bc hown hE HW De Dc hno
       go_wp2
       go_roundw
       case rel=>exact ⟨i+1,_,by omega,by go_num,HST,hown2,hE2⟩
       case measure=>simp [intOf];omega
  · obtain rfl:i=na:=by omega
    have hu:=hown.CV HO.out.lt (by rw [HO.out.len];omega)
    have hvv:=HO.out.val
    rw [HT2.out.2,Nat.mul_comm] at hvv
    have HV:=Lib.hid hvv
    have hol:=HO.out.len
    clear hown HO hvv
    go_wp2_with (fail)
    refine (fG _ _ _ hu (by omega)).mono ?_
    rintro e w2 ⟨⟨u,rfl,hu2⟩,hB2⟩
    rw [HV.out] at hu2
    have hE2:=hE.below hB2
    have HF:Hid (∃ u',Ending.returned u = .returned u'∧Un w2 u' (val jw*val bs)):=⟨_,rfl,hu2⟩
    clear hu2 hu hB2
    go_wp2
    go_ret
    exact ⟨HF.out,hE2⟩
end Go.Proofs.YtdpmbgomcjnohaaGreatDoor
namespace Go.Proofs.YtdpmbgomcjnohaaGreatDoor
open Go.RowKit
set_option linter.all false
set_option maxRecDepth 100000
set_option maxHeartbeats 8000000
theorem sN (w:World) (va vb:Value) (n m k:Nat) (ha:Un w va n) (hb:Un w vb m) (hn:(limbs n).length≤398) (hm:(limbs m).length≤398) (hk:n*m=k) :
  Calls Tryz.prog 143 #[va,vb] w fun e w'=>∃ u,e = .returned u∧Un w' u k∧Ext w w':=by
 refine (oG w va vb _ _ _ _ ha hb rfl rfl (by omega) (by omega)).mono ?_
 rw [aI,aI,hk]
 rintro e w' ⟨⟨u,h1,h2⟩,h3⟩
 exact ⟨u,h1,h2,h3⟩
end Go.Proofs.YtdpmbgomcjnohaaGreatDoor
namespace Go.Proofs.YtdpmbgomcjnohaaGreatDoor
open Go.RowKit
set_option linter.all false
set_option maxRecDepth 100000
set_option maxHeartbeats 8000000
attribute [local go_sem ↓] kV
attribute [local go_sem] fQ
theorem qF (o:List Nat) (N:Nat) (h:∀ j,j<o.length→lb o j=N/4294967296^j%4294967296):val o=N%4294967296^o.length:=by
 have key:∀ j,j≤o.length→val (o.take j)=N%4294967296^j:=by
  intro j
  induction j with
  | zero=>intro _;simp [val,Nat.mod_one]
  | succ j ih =>
   intro hj
   rw [mM o j (by omega),ih (by omega),h j (by omega),Nat.mod_pow_succ,Nat.mul_comm]
 have:=key o.length (Nat.le_refl _)
 rwa [List.take_length] at this
theorem rP (n q S k:Nat) (hS:S<32) :
  (lb (limbs n) (q+k)+4294967296*(lb (limbs n) (q+k+1)%2^S))/2^S%4294967296=n/2^(32*q+S)/4294967296^k%4294967296:=by
 rw [qB,qB]
 have e1:n/2^(32*q+S)/4294967296^k=n/4294967296^(q+k)/2^S:=by
  rw [Nat.div_div_eq_div_mul,Nat.div_div_eq_div_mul,Nat.pow_add 2,← sQ,Nat.pow_add 4294967296,Nat.mul_right_comm]
 have e2:n/4294967296^(q+k+1)=n/4294967296^(q+k)/4294967296:=by
  rw [Nat.pow_succ,Nat.div_div_eq_div_mul]
 rw [e1,e2]
 generalize n/4294967296^(q+k)=V
 have hd:2^S∣4294967296:=⟨2^(32-S),by rw [← Nat.pow_add,show S+(32-S)=32 by omega]⟩
 rw [Nat.mod_mod_of_dvd _ hd]
 have hp:0<2^S:=Nat.two_pow_pos S
 generalize 2^S=P at *
 have e3:V=V%4294967296+4294967296*(V/4294967296%P)+P*(4294967296*(V/4294967296/P)):=by
  have a1:=Nat.div_add_mod V 4294967296
  have a2:=Nat.div_add_mod (V/4294967296) P
  have a3:4294967296*(V/4294967296)=P*(4294967296*(V/4294967296/P))+4294967296*(V/4294967296%P):=by
   conv=>lhs;rw [← a2]
   rw [Nat.mul_add,Nat.mul_left_comm]
  omega
 conv=>rhs;rw [e3]
 rw [Nat.add_mul_div_left _ _ hp,Nat.add_mul_mod_self_left]
theorem wX (a b P:Nat) (ha:a<4294967296) (kZ:0<P) (hP:P<4294967296) :
  (IntKind.u64.wrap ((IntKind.u64.wrap ((a:Int)+IntKind.u64.wrap (4294967296*((b:Int)%(P:Int))))).tdiv (P:Int))).tmod 4294967296%4294967296=(((a+4294967296*(b%P))/P%4294967296:Nat):Int):=by
 have hr:b%P<P:=Nat.mod_lt _ kZ
 rw [← Int.natCast_emod]
 generalize b%P=r at *
 rw [show IntKind.u64.wrap (4294967296*(r:Int))=4294967296*(r:Int) by rw [IntKind.wrap_u64];omega]
 rw [show IntKind.u64.wrap ((a:Int)+4294967296*(r:Int))=((a+4294967296*r:Nat):Int) by rw [IntKind.wrap_u64];omega]
 have hX:a+4294967296*r<18446744073709551616:=by omega
 generalize a+4294967296*r=X at *
 have hY:X/P<18446744073709551616:=Nat.lt_of_le_of_lt (Nat.div_le_self _ _) hX
 rw [Int.tdiv_eq_ediv_of_nonneg (by omega),← Int.natCast_ediv]
 generalize X/P=Y at *
 rw [IntKind.wrap_u64,Int.tmod_eq_emod_of_nonneg (by omega)]
 omega
theorem qG (w:World) (v:Value) (n:Nat) (k0:Nat) (hk:k0≤100000000) (h:Un w v n) (hl:(limbs n).length≤100000000) :
  Calls Tryz.prog 66 #[v,.int .i64 (k0:Int)] w fun e w'=>(∃ u,e = .returned u∧Un w' u (n/2^k0))∧Below w.heap.size w w':=by
 obtain ⟨A,c,rfl,⟨hc,hm⟩,hx,hr⟩:=id h
 clear hr
 obtain ⟨Q,hQ⟩:∃ Q,k0/32=Q:=⟨_,rfl⟩
 obtain ⟨S,hS⟩:∃ S,k0%32=S:=⟨_,rfl⟩
 have eQ:(k0:Int)/32=(Q:Int):=by omega
 have eS:(k0:Int)%32=(S:Int):=by omega
 have HK:Hid (k0=32*Q+S):=by rw [Hid];omega
 have qO:S<32:=by omega
 have Ty:Q≤100000000:=by omega
 go_enter Tryz.func66,Tryz.ntmps66
 go_wp2_with (fail)
 have hown0:Own (w.alloc (.cells #[] 67)) w.heap.size (.slice (some ⟨w.heap.size,0,none⟩) 0 0) []:=World.ownsRow_lit w #[] 0 (Nat.le_refl _) (Nat.zero_le _) rfl
 have hB0:Below w.heap.size w (w.alloc (.cells #[] 67)):=(Below.refl _ _).alloc (Nat.le_refl _) _
 go_loop [6,7] (fun b i=>∃ j:Nat,j≤S∧i = .int .i64 j∧b = .int .u64 (2^j:Nat)) (fun _ i=>S-(intOf i).toNat)
 case atStart=>exact ⟨0,Nat.zero_le _,rfl,rfl⟩
 case round =>
  obtain ⟨j,hj,rfl,rfl⟩:=hrel
  have hp1:2^j<4294967296:=Nat.lt_of_le_of_lt (Nat.pow_le_pow_right (by decide) (show j≤31 by omega)) (by decide)
  by_cases hd2:j<S
  · have HN:Hid (2*((2^j:Nat):Int)=((2^(j+1):Nat):Int)):=by rw [Hid,Nat.pow_succ];omega
    obtain ⟨X,hX⟩:∃ X,2^j=X:=⟨_,rfl⟩
    rw [hX] at HN hp1
    rw [hX]
    clear hX
    go_wp2
    go_round
    case rel=>exact ⟨j+1,by omega,by go_num,by rw [← HN.out]⟩
    case measure=>simp [intOf];omega
  · obtain rfl:j=S:=by omega
    have hp0:0<2^j:=Nat.two_pow_pos j
    have HD:Hid (∀ k,(lb (limbs n) (Q+k)+4294967296*(lb (limbs n) (Q+k+1)%2^j))/2^j%4294967296=n/2^k0/4294967296^k%4294967296):=fun k=>by
     rw [HK.out];exact rP n Q j k qO
    have HT:Hid (n/2^k0<4294967296^((limbs n).length-Q)):=by
     rw [Hid,Nat.div_lt_iff_lt_mul (Nat.two_pow_pos _)]
     refine Nat.lt_of_lt_of_le (pz n) ?_
     rw [HK.out,Nat.pow_add,← sQ,← Nat.mul_assoc,← Nat.pow_add]
     exact Nat.le_trans (Nat.pow_le_pow_right (by decide) (show (limbs n).length≤(limbs n).length-Q+Q by omega)) (Nat.le_mul_of_pos_right _ hp0)
    obtain ⟨P,hP⟩:∃ P,2^j=P:=⟨_,rfl⟩
    rw [hP] at hp0 hp1 HD
    rw [hP]
    clear hP
    go_wp2_with (fail)
    go_loopw [5,8] (fun s i wr=>∃ (m:Nat) (o:List Nat),(m=0∨Q+m≤(limbs n).length)∧i = .int .i64 ((Q+m:Nat):Int)∧Hid (o.length=m∧(∀ x∈o,x<4294967296)∧∀ t,t<m→lb o t=n/2^k0/4294967296^t%4294967296)∧Own wr w.heap.size s o∧Below w.heap.size w wr) (fun _ i _=>(limbs n).length-(intOf i).toNat)
    case atStart=>exact ⟨0,[],Or.inl rfl,rfl,⟨rfl,by simp,fun t ht=>by omega⟩,hown0,hB0⟩
    case round =>
     clear hown0 hB0
     obtain ⟨m,o,hm1,rfl,HO,hown,hB⟩:=hrel
     have hlen:=HO.out.1
     by_cases hd3:Q+m<(limbs n).length
     · have h1:=iV hx (Q+m)
       have h2:=iV hx (Q+m+1)
       obtain ⟨x1,hx1⟩:∃ x1,(lb (limbs n) (Q+m)+4294967296*(lb (limbs n) (Q+m+1)%P))/P%4294967296=x1:=⟨_,rfl⟩
       have hxl:x1<4294967296:=by rw [← hx1];exact Nat.mod_lt _ (by decide)
       have CY:Hid ((o++[x1]).length=m+1∧(∀ x∈o++[x1],x<4294967296)∧∀ t,t<m+1→lb (o++[x1]) t=n/2^k0/4294967296^t%4294967296):=by
        refine ⟨by simp [hlen],tN HO.out.2.1 hxl,fun t ht=>?_⟩
        rcases Nat.lt_or_ge t m with h6 | h6
        · rw [← HO.out.2.2 t h6];unfold lb;rw [List.getElem?_append_left (by omega)]
        · obtain rfl:t=m:=by omega
          rw [← HD.out t,hx1];unfold lb;rw [List.getElem?_append_right (by omega),hlen,Nat.sub_self];rfl
       have e2:(IntKind.u64.wrap ((IntKind.u64.wrap (((lb (limbs n) (Q+m):Nat):Int)+IntKind.u64.wrap (4294967296*(((lb (limbs n) (Q+m+1):Nat):Int)%(P:Int))))).tdiv (P:Int))).tmod 4294967296%4294967296=(x1:Int):=by rw [← hx1];exact wX _ _ _ h1 hp0 hp1
       obtain ⟨v',w',hrun,hown',hB'⟩:=j6 hB hown ((IntKind.u64.wrap ((IntKind.u64.wrap (((lb (limbs n) (Q+m):Nat):Int)+IntKind.u64.wrap (4294967296*(((lb (limbs n) (Q+m+1):Nat):Int)%(P:Int))))).tdiv (P:Int))).tmod 4294967296%4294967296) x1 e2 hxl (by omega)
       obtain ⟨t1,t2,t3⟩:=kD hrun
       clear hrun hx1 e2 hlen hxl h2 hown hm1
       go_wp2_with (fail)
       refine (fV _ _ (limbs n) _ (Q+m) (by omega) (U.below h hB)).mono ?_
       rintro e w' ⟨rfl,rfl⟩
       go_wp2_with (fail)
       refine (fV _ _ (limbs n) _ (Q+m+1) (by omega) (U.below h hB)).mono ?_
       rintro e w' ⟨rfl,rfl⟩
       go_wp2_with (fail)
       go_roundw
       case rel=>exact ⟨m+1,_,Or.inr (by omega),by go_num,CY,hown',hB'⟩
       case measure=>simp [intOf];omega
     · have HV:Hid (val o=n/2^k0):=by
        rw [Hid,qF o (n/2^k0) (fun t ht=>HO.out.2.2 t (by omega))]
        apply Nat.mod_eq_of_lt
        refine Nat.lt_of_lt_of_le HT.out (Nat.pow_le_pow_right (by decide) (by omega))
       have hu:=hown.CV HO.out.2.1 (by omega)
       have hol:o.length≤1000000000:=by omega
       clear hlen
       go_wp2_with (fail)
       refine (fG _ _ _ hu hol).mono ?_
       rintro e w' ⟨⟨z,rfl,hz⟩,hB2⟩
       have hz2:Un w' z (n/2^k0):=by rw [← HV.out];exact hz
       replace hB:=Below.trans hB (Below.mono hB2 hB.size)
       clear hz
       go_wp2
       go_ret
       exact ⟨⟨_,rfl,hz2⟩,hB⟩
end Go.Proofs.YtdpmbgomcjnohaaGreatDoor
namespace Go.Proofs.YtdpmbgomcjnohaaGreatDoor
open Go.RowKit
set_option linter.all false
set_option maxRecDepth 100000
set_option maxHeartbeats 8000000
theorem zk (w:World) (v:Value) (n:Nat) (k:Nat) (h:Un w v n) (hk1:k≤100000000) (hl:(limbs n).length≤100000000) (s:Nat) (hs:n/2^k=s) :
  Calls Tryz.prog 66 #[v,.int .i64 (k:Int)] w fun e w'=>∃ z,e = .returned z∧Un w' z s∧Ext w w':=by
 subst hs
 exact (qG w v n k hk1 h hl).mono fun e w' ⟨⟨z,he,hz⟩,hb⟩=>⟨z,he,hz,hb⟩
end Go.Proofs.YtdpmbgomcjnohaaGreatDoor
namespace Go.Proofs.YtdpmbgomcjnohaaGreatDoor
open Go.RowKit
set_option linter.all false
set_option maxRecDepth 100000
set_option maxHeartbeats 8000000
theorem Ca (w:World) (va vb:Value) (n m k:Nat) (ha:Un w va n) (hb:Un w vb m) (hn:(limbs n).length≤398) (hm:(limbs m).length≤398) (hk:n*m=k) :
  Calls Tryz.prog 128 #[va,vb] w fun e w'=>∃ u,e = .returned u∧Un w' u k∧Ext w w':=by
 have h0:=Lib.hid (sN w va vb n m k ha hb hn hm hk)
 clear ha hb hn hm hk
 go_enter Tryz.func128,Tryz.ntmps128
 go_wp2_with (fail)
 refine h0.out.mono ?_
 rintro e w1 ⟨u,rfl,hu,hB⟩
 have HF:Hid (∃ u',Ending.returned u = .returned u'∧Un w1 u' k∧Ext w w1):=⟨_,rfl,hu,hB⟩
 clear hu hB h0
 go_wp2
 go_ret
 exact HF.out
end Go.Proofs.YtdpmbgomcjnohaaGreatDoor
namespace Go.Proofs.YtdpmbgomcjnohaaGreatDoor
open Go.RowKit
set_option linter.all false
set_option maxRecDepth 100000
set_option maxHeartbeats 8000000
theorem Qw (w:World) (v:Value) (z:Int) (h:Zn w v z) (y:Int) (hy : -z=y) :
  Calls Tryz.prog 71 #[v] w fun e w'=>∃ u,e = .returned u∧Zn w' u y∧Ext w w':=by
 obtain ⟨b,A,L,c,n,rfl,hu,hL,hz,hb,hza,hzn⟩:=h.open
 have hE0:=((Ext.refl w).alloc (.cells #[.bool b,.slice A L c] 24)).alloc (.cells #[.bool false,.slice none 0 0] 24)
 have hI0:=Ib.new2 w (.cells #[.bool b,.slice A L c] 24) false (.slice none 0 0) 24
 have kZ:=(Ib.new w b (.slice A L c) 24).ext ((Ext.refl _).alloc (.cells #[.bool false,.slice none 0 0] 24))
 have hu0:=hu.below hE0
 have hM:=Lib.hid (fun W h=>qM W (!b) (.slice A L c) (limbs n) h n (aI n) y (by rw [Ka,← hz];exact hy))
 obtain ⟨p0,p1,p2,p3,p4⟩:=id kZ
 clear hz hb hza hzn hL hy h
 go_enter Tryz.func71,Tryz.ntmps71
 go_wp2_with (go_at_call 86;refine (hM.out _ hu0).mono ?_;rintro e w2 ⟨u,rfl,hz2,hE2⟩;obtain ⟨b2,A2,L2,c2,rfl⟩:=hz2.sh;have hI2:=hI0.ext hE2;obtain ⟨i0,i1,i2,i3,i4⟩:=id hI2)
 (try simp only [Exit.inBlock,Exit.then])
 refine bodyPost_ret (v:=.agg #[.bool b2,.slice A2 L2 c2]) (show (results _ _).run _ _=_ from ?_) rfl ⟨_,rfl,hz2.fZ hI2 (dw _ _ _) _ _,(hE0.below hE2).fZ (by simp) _ _⟩
 simp only [results]
 go_simp
end Go.Proofs.YtdpmbgomcjnohaaGreatDoor
namespace Go.Proofs.YtdpmbgomcjnohaaGreatDoor
open Go.RowKit
set_option linter.all false
set_option maxRecDepth 100000
set_option maxHeartbeats 8000000
theorem vO {w X Y:World} {p:Bool} {mp:Value} (h:(w.heap.size+1<X.heap.size∧X.cell? ⟨w.heap.size,0,none⟩=some (.bool p)∧X.cell? ⟨w.heap.size,1,none⟩=some mp)∧Ext w X) (k:Ext X Y):(w.heap.size+1<Y.heap.size∧Y.cell? ⟨w.heap.size,0,none⟩=some (.bool p)∧Y.cell? ⟨w.heap.size,1,none⟩=some mp)∧Ext w Y:=by
 obtain ⟨⟨h0,h1,h2⟩,hx⟩:=h
 have hs:=k.size
 exact ⟨⟨by omega,(k.cell (p:=⟨w.heap.size,0,none⟩) (by show w.heap.size<_;omega)).trans h1,(k.cell (p:=⟨w.heap.size,1,none⟩) (by show w.heap.size<_;omega)).trans h2⟩,hx.below k⟩
theorem vP {w X:World} {p:Bool} {mp x y:Value} (h:(w.heap.size+1<X.heap.size∧X.cell? ⟨w.heap.size,0,none⟩=some (.bool p)∧X.cell? ⟨w.heap.size,1,none⟩=some mp)∧Ext w X):(w.heap.size+1<((X.setCell ⟨w.heap.size+1,0,none⟩ x).setCell ⟨w.heap.size+1,1,none⟩ y).heap.size∧((X.setCell ⟨w.heap.size+1,0,none⟩ x).setCell ⟨w.heap.size+1,1,none⟩ y).cell? ⟨w.heap.size,0,none⟩=some (.bool p)∧((X.setCell ⟨w.heap.size+1,0,none⟩ x).setCell ⟨w.heap.size+1,1,none⟩ y).cell? ⟨w.heap.size,1,none⟩=some mp)∧Ext w ((X.setCell ⟨w.heap.size+1,0,none⟩ x).setCell ⟨w.heap.size+1,1,none⟩ y):=by
 obtain ⟨⟨h0,h1,h2⟩,hx⟩:=h
 have hc:∀ a:Addr,a.block≠w.heap.size+1→((X.setCell ⟨w.heap.size+1,0,none⟩ x).setCell ⟨w.heap.size+1,1,none⟩ y).cell? a=X.cell? a:=fun a ha=>by
  rw [World.cell?_setCell_other _ _ _ _ (fun e=>ha (by rw [← e])),World.cell?_setCell_other _ _ _ _ (fun e=>ha (by rw [← e]))]
 refine ⟨⟨by simpa using h0,?_,?_⟩,hx.fZ (by omega) _ _⟩
 · rw [hc _ (by show w.heap.size≠_;omega)];exact h1
 · rw [hc _ (by show w.heap.size≠_;omega)];exact h2
theorem uB {w X Y:World} {p q:Bool} {mp mq:Value} (h:(w.heap.size+1+1<X.heap.size∧X.cell? ⟨w.heap.size,0,none⟩=some (.bool p)∧X.cell? ⟨w.heap.size,1,none⟩=some mp∧X.cell? ⟨w.heap.size+1,0,none⟩=some (.bool q)∧X.cell? ⟨w.heap.size+1,1,none⟩=some mq)∧Ext w X) (k:Ext X Y):(w.heap.size+1+1<Y.heap.size∧Y.cell? ⟨w.heap.size,0,none⟩=some (.bool p)∧Y.cell? ⟨w.heap.size,1,none⟩=some mp∧Y.cell? ⟨w.heap.size+1,0,none⟩=some (.bool q)∧Y.cell? ⟨w.heap.size+1,1,none⟩=some mq)∧Ext w Y:=by
 obtain ⟨⟨h0,h1,h2,h3,h4⟩,hx⟩:=h
 have hs:=k.size
 exact ⟨⟨by omega,(k.cell (p:=⟨w.heap.size,0,none⟩) (by show w.heap.size<_;omega)).trans h1,(k.cell (p:=⟨w.heap.size,1,none⟩) (by show w.heap.size<_;omega)).trans h2,(k.cell (p:=⟨w.heap.size+1,0,none⟩) (by show w.heap.size+1<_;omega)).trans h3,(k.cell (p:=⟨w.heap.size+1,1,none⟩) (by show w.heap.size+1<_;omega)).trans h4⟩,hx.below k⟩
theorem uC {w X:World} {p q:Bool} {mp mq x y:Value} (h:(w.heap.size+1+1<X.heap.size∧X.cell? ⟨w.heap.size,0,none⟩=some (.bool p)∧X.cell? ⟨w.heap.size,1,none⟩=some mp∧X.cell? ⟨w.heap.size+1,0,none⟩=some (.bool q)∧X.cell? ⟨w.heap.size+1,1,none⟩=some mq)∧Ext w X):(w.heap.size+1+1<((X.setCell ⟨w.heap.size+1+1,0,none⟩ x).setCell ⟨w.heap.size+1+1,1,none⟩ y).heap.size∧((X.setCell ⟨w.heap.size+1+1,0,none⟩ x).setCell ⟨w.heap.size+1+1,1,none⟩ y).cell? ⟨w.heap.size,0,none⟩=some (.bool p)∧((X.setCell ⟨w.heap.size+1+1,0,none⟩ x).setCell ⟨w.heap.size+1+1,1,none⟩ y).cell? ⟨w.heap.size,1,none⟩=some mp∧((X.setCell ⟨w.heap.size+1+1,0,none⟩ x).setCell ⟨w.heap.size+1+1,1,none⟩ y).cell? ⟨w.heap.size+1,0,none⟩=some (.bool q)∧((X.setCell ⟨w.heap.size+1+1,0,none⟩ x).setCell ⟨w.heap.size+1+1,1,none⟩ y).cell? ⟨w.heap.size+1,1,none⟩=some mq)∧Ext w ((X.setCell ⟨w.heap.size+1+1,0,none⟩ x).setCell ⟨w.heap.size+1+1,1,none⟩ y):=by
 obtain ⟨⟨h0,h1,h2,h3,h4⟩,hx⟩:=h
 have hc:∀ a:Addr,a.block≠w.heap.size+1+1→((X.setCell ⟨w.heap.size+1+1,0,none⟩ x).setCell ⟨w.heap.size+1+1,1,none⟩ y).cell? a=X.cell? a:=fun a ha=>by
  rw [World.cell?_setCell_other _ _ _ _ (fun e=>ha (by rw [← e])),World.cell?_setCell_other _ _ _ _ (fun e=>ha (by rw [← e]))]
 refine ⟨⟨by simpa using h0,?_,?_,?_,?_⟩,hx.fZ (by omega) _ _⟩
 · rw [hc _ (by show w.heap.size≠_;omega)];exact h1
 · rw [hc _ (by show w.heap.size≠_;omega)];exact h2
 · rw [hc _ (by show w.heap.size+1≠_;omega)];exact h3
 · rw [hc _ (by show w.heap.size+1≠_;omega)];exact h4
end Go.Proofs.YtdpmbgomcjnohaaGreatDoor
namespace Go.Proofs.YtdpmbgomcjnohaaGreatDoor
open Go.RowKit
set_option linter.all false
set_option maxRecDepth 100000
set_option maxHeartbeats 8000000
/-! Contracts. -/
/-! Comparisons of what nat.Cmp tells. -/
section
variable {P:Program} {T:TypeId} {x y:Operand} {n m:Nat}
end
/-! Numbers of the kinds. -/
section
variable {P:Program} {T:TypeId} {x y:Operand} {a b:Nat} {za zb:Int}
theorem jR (h0:b≠0) (_:a≤a) (X:World):Pl.Bn P .rem T x y (.int .i64 ((a:Nat):Int)) (.int .i64 ((b:Nat):Int)) X = .ok (.int .i64 ((a%b:Nat):Int)) X:=Pl.wD (by omega) (Int.ofNat_tmod a b).symm X
end
/-! Ways out of loops and blocks. -/
section
variable {P:Program} {Q:Exit→Act→World→Prop} {n:Nat} {ds:List Deferred} {cs:List Code} {l:List (Nat × Value)} {w:World}
end
section
variable {P:Program} {L:List Oper} {S:World→Prop} {K:List (Nat × Value)→World→Prop} {kk:Bool} {i m d:Nat} {o:Oper} {x y:Operand} {r:List (Bool × Nat × Nat)} {l:List (Nat × Value)} {w:World} {k:IntKind} {a b:Nat}
end
end Go.Proofs.YtdpmbgomcjnohaaGreatDoor
namespace Go.Proofs.YtdpmbgomcjnohaaGreatDoor.Rq
set_option linter.all false
set_option maxRecDepth 100000
set_option maxHeartbeats 8000000
theorem Df {a b:Rat}:a<b↔a.num*b.den<b.num*a.den:=Rat.lt_iff a b
theorem cmp_eq {a b:Rat}:a=b↔a.num*b.den=b.num*a.den:=Rat.eq_iff_mul_eq_mul
theorem Ke (a b:Rat):Rat.divInt (a.num*b.den+b.num*a.den) ((a.den*b.den:Nat):Int)=a+b:=by rw [Rat.divInt_ofNat,Rat.add_def']
theorem Cc (a b:Rat):Rat.divInt (a.num*b.num) ((a.den*b.den:Nat):Int)=a*b:=by rw [Rat.divInt_ofNat,Rat.mul_def']
theorem sign_neg {a:Rat}:a<0↔a.num<0:=by
 rw [Rat.lt_iff]
 show a.num*1<0*_↔_
 omega
theorem sign_zero {a:Rat}:a=0↔a.num=0:=Rat.num_eq_zero.symm
end Go.Proofs.YtdpmbgomcjnohaaGreatDoor.Rq
namespace Go.Proofs.YtdpmbgomcjnohaaGreatDoor
open Go.RowKit
set_option linter.all false
set_option maxRecDepth 100000
set_option maxHeartbeats 8000000
theorem xH (p q:Bool) (n m:Nat):sg (!(p==q)) (n*m)=sg p n*sg q m:=by
 cases p<;>cases q<;>simp [sg,Int.mul_neg,Int.neg_mul]
theorem VQ (w:World) (va vb:Value) (a b:Int) (ha:Zn w va a) (hb:Zn w vb b) (hl:(limbs a.natAbs).length≤398) (hl2:(limbs b.natAbs).length≤398) (y:Int) (hy:a*b=y) :
  Calls Tryz.prog 76 #[va,vb] w fun e w'=>∃ u,e = .returned u∧Zn w' u y∧Ext w w':=by
 obtain ⟨p,A,L,c,n,rfl,hu,hL,hz,-,hza,hzn⟩:=ha.open
 obtain ⟨q,B,K,d,m,rfl,hv,hK,hz2,-,pJ,tZ⟩:=hb.open
 rw [hza] at hl
 rw [pJ] at hl2
 obtain ⟨k,hk⟩:∃ k,n*m=k:=⟨_,rfl⟩
 have hM:=Lib.hid (fun W h g=>mulN W (.slice A L c) (.slice B K d) n m k h g hl hl2 hk)
 have Kg:=Lib.hid (fun W v (h:Un W v k)=>qM W (!(p==q)) v (limbs k) h k (aI _) y (by rw [← hk,xH,← hz,← hz2];exact hy))
 have hE0:=((((Ext.refl w).alloc (.cells #[.bool p,.slice A L c] 24)).alloc (.cells #[.bool q,.slice B K d] 24)).alloc (.cells #[.bool false,.slice none 0 0] 24)).drew
 have hI0:=(Ib.zu w (.cells #[.bool p,.slice A L c] 24) (.cells #[.bool q,.slice B K d] 24) false (.slice none 0 0) 24).ext (Ext.refl _).drew
 have kZ:=(Ib.new w p (.slice A L c) 24).ext ((((Ext.refl _).alloc (.cells #[.bool q,.slice B K d] 24)).alloc (.cells #[.bool false,.slice none 0 0] 24)).drew)
 have vW:=(Ib.new2 w (.cells #[.bool p,.slice A L c] 24) q (.slice B K d) 24).ext (((Ext.refl _).alloc (.cells #[.bool false,.slice none 0 0] 24)).drew)
 have hu0:=hu.below hE0
 have hv0:=hv.below hE0
 obtain ⟨p0,p1,p2,p3,p4⟩:=id kZ
 obtain ⟨q0,q1,q2,q3,q4⟩:=id vW
 clear hl hl2 hza hzn pJ tZ hz hz2 hL hK ha hb hy hk
 go_enter Tryz.func76,Tryz.ntmps76
 have hS0:(w.heap.size+1+1<(((w.alloc (.cells #[.bool p,.slice A L c] 24)).alloc (.cells #[.bool q,.slice B K d] 24)).alloc (.cells #[.bool false,.slice none 0 0] 24)).drew.heap.size∧(((w.alloc (.cells #[.bool p,.slice A L c] 24)).alloc (.cells #[.bool q,.slice B K d] 24)).alloc (.cells #[.bool false,.slice none 0 0] 24)).drew.cell? ⟨w.heap.size,0,none⟩=some (.bool p)∧(((w.alloc (.cells #[.bool p,.slice A L c] 24)).alloc (.cells #[.bool q,.slice B K d] 24)).alloc (.cells #[.bool false,.slice none 0 0] 24)).drew.cell? ⟨w.heap.size,1,none⟩=some (.slice A L c)∧(((w.alloc (.cells #[.bool p,.slice A L c] 24)).alloc (.cells #[.bool q,.slice B K d] 24)).alloc (.cells #[.bool false,.slice none 0 0] 24)).drew.cell? ⟨w.heap.size+1,0,none⟩=some (.bool q)∧(((w.alloc (.cells #[.bool p,.slice A L c] 24)).alloc (.cells #[.bool q,.slice B K d] 24)).alloc (.cells #[.bool false,.slice none 0 0] 24)).drew.cell? ⟨w.heap.size+1,1,none⟩=some (.slice B K d))∧Ext w (((w.alloc (.cells #[.bool p,.slice A L c] 24)).alloc (.cells #[.bool q,.slice B K d] 24)).alloc (.cells #[.bool false,.slice none 0 0] 24)).drew:=⟨⟨by simp,p1,p2,q1,q2⟩,hE0⟩
 clear p0 p1 p2 p3 p4 q0 q1 q2 q3 q4
 go_wp2
 go_region_held3 (fun X=>(w.heap.size+1+1<X.heap.size∧X.cell? ⟨w.heap.size,0,none⟩=some (.bool p)∧X.cell? ⟨w.heap.size,1,none⟩=some (.slice A L c)∧X.cell? ⟨w.heap.size+1,0,none⟩=some (.bool q)∧X.cell? ⟨w.heap.size+1,1,none⟩=some (.slice B K d))∧Ext w X)
  (first
   | exact hS0
   | exact uB (by assumption) (by assumption)
   | exact uC (by assumption))
  (first
   | (go_at_call 115;((with_reducible refine (hM.out _ hu0 hv0).mono ?_);rintro e w2 ⟨u,rfl,hu2,hE2⟩;obtain ⟨A2,c2,rfl,hc2⟩:=Un.sh hu2))
   | (go_at_call 86;((with_reducible refine (Kg.out _ _ hu2).mono ?_);rintro e w3 ⟨u,rfl,hz3,aO⟩;obtain ⟨b3,A3,L3,c3,rfl⟩:=hz3.sh;have nX:=(hI0.ext hE2).ext aO;obtain ⟨i0,i1,i2,i3,i4⟩:=id nX)))
 clear nX hM Kg
 go_wp2
 (try simp only [Exit.inBlock,Exit.then])
 refine bodyPost_ret (v:=.agg #[.bool b3,.slice A3 L3 c3]) (show (results _ _).run _ _=_ from ?_) rfl ⟨_,rfl,hz3.fZ ((hI0.ext hE2).ext aO) (dw _ _ _) _ _,((hE0.below hE2).below aO).fZ (by omega) _ _⟩
 simp only [results]
 go_simp
end Go.Proofs.YtdpmbgomcjnohaaGreatDoor
namespace Go.Proofs.YtdpmbgomcjnohaaGreatDoor
open Go.RowKit
set_option linter.all false
set_option maxRecDepth 100000
set_option maxHeartbeats 8000000
theorem EC (w:World) (v:Value) (z:Int) (h:Zn w v z) (hl:(limbs z.natAbs).length≤1000000) (k:Int) (hk:Int.sign z=k) :
  Calls Tryz.prog 52 #[v] w fun e w'=>e = .returned (.int .i64 k)∧Ext w w':=by
 have hk2:jy z 0=k:=by
  rw [← hk]
  unfold jy
  rcases Int.lt_trichotomy z 0 with h | h | h
  · rw [if_pos h,Int.sign_eq_neg_one_of_neg h]
  · subst h;rfl
  · rw [if_neg (by omega),if_pos h,Int.sign_eq_one_of_pos h]
 have h':=h
 obtain ⟨p,A,L,c,rfl⟩:=h.sh
 have hE0:=(Ext.refl w).alloc (.cells #[.bool p,.slice A L c] 24)
 have hC:=Lib.hid (Iz _ _ _ z 0 (h'.below hE0) (Zn.zero _ none 0) hl (by rw [show Int.natAbs 0=0 from rfl,fI];decide) k hk2)
 clear hk hk2 hl h h'
 go_enter Tryz.func52,Tryz.ntmps52
 go_wp2_with (go_at_call 89;refine hC.out.mono ?_;rintro e w2 ⟨rfl,hE2⟩)
 go_ret
 exact ⟨rfl,hE0.below hE2⟩
end Go.Proofs.YtdpmbgomcjnohaaGreatDoor
namespace Go.Proofs.YtdpmbgomcjnohaaGreatDoor
open Go.RowKit
set_option linter.all false
set_option maxRecDepth 100000
set_option maxHeartbeats 8000000
theorem vX (w:World) (p:Bool) (A B:Option Addr) (L K c d n m:Nat) (hu:Un w (.slice A L c) n) (hv:Un w (.slice B K d) m) (hl:(limbs n).length≤1000000) (hl2:(limbs m).length≤1000000) (y:Int) (hy:sg p (n+m)=y) :
  Calls Tryz.prog 55 #[.agg #[.bool p,.slice A L c],.agg #[.bool p,.slice B K d]] w fun e w'=>∃ u,e = .returned u∧Zn w' u y∧Ext w w':=by
 have hE0:=((((Ext.refl w).alloc (.cells #[.bool p,.slice A L c] 24)).alloc (.cells #[.bool p,.slice B K d] 24)).alloc (.cells #[.bool false,.slice none 0 0] 24)).drew
 have hI0:=(Ib.zu w (.cells #[.bool p,.slice A L c] 24) (.cells #[.bool p,.slice B K d] 24) false (.slice none 0 0) 24).ext (Ext.refl _).drew
 have kZ:=(Ib.new w p (.slice A L c) 24).ext ((((Ext.refl _).alloc (.cells #[.bool p,.slice B K d] 24)).alloc (.cells #[.bool false,.slice none 0 0] 24)).drew)
 have vW:=(Ib.new2 w (.cells #[.bool p,.slice A L c] 24) p (.slice B K d) 24).ext (((Ext.refl _).alloc (.cells #[.bool false,.slice none 0 0] 24)).drew)
 have hS0:(w.heap.size+1+1<(((w.alloc (.cells #[.bool p,.slice A L c] 24)).alloc (.cells #[.bool p,.slice B K d] 24)).alloc (.cells #[.bool false,.slice none 0 0] 24)).drew.heap.size∧(((w.alloc (.cells #[.bool p,.slice A L c] 24)).alloc (.cells #[.bool p,.slice B K d] 24)).alloc (.cells #[.bool false,.slice none 0 0] 24)).drew.cell? ⟨w.heap.size,0,none⟩=some (.bool p)∧(((w.alloc (.cells #[.bool p,.slice A L c] 24)).alloc (.cells #[.bool p,.slice B K d] 24)).alloc (.cells #[.bool false,.slice none 0 0] 24)).drew.cell? ⟨w.heap.size,1,none⟩=some (.slice A L c)∧(((w.alloc (.cells #[.bool p,.slice A L c] 24)).alloc (.cells #[.bool p,.slice B K d] 24)).alloc (.cells #[.bool false,.slice none 0 0] 24)).drew.cell? ⟨w.heap.size+1,0,none⟩=some (.bool p)∧(((w.alloc (.cells #[.bool p,.slice A L c] 24)).alloc (.cells #[.bool p,.slice B K d] 24)).alloc (.cells #[.bool false,.slice none 0 0] 24)).drew.cell? ⟨w.heap.size+1,1,none⟩=some (.slice B K d))∧Ext w (((w.alloc (.cells #[.bool p,.slice A L c] 24)).alloc (.cells #[.bool p,.slice B K d] 24)).alloc (.cells #[.bool false,.slice none 0 0] 24)).drew:=⟨⟨by simp,kZ.2.1,kZ.2.2.1,vW.2.1,vW.2.2.1⟩,hE0⟩
 have hu0:=hu.below hE0
 have hv0:=hv.below hE0
 have hsl:(limbs (n+m)).length≤1000000000:=by
  have h1:=jB hl
  have h2:=jB hl2
  refine Nat.le_trans (rA (k:=1000000+1) ?_) (by omega)
  obtain ⟨E,hE⟩:∃ E,1000000=E:=⟨_,rfl⟩
  rw [hE] at h1 h2 ⊢
  rw [Nat.pow_succ]
  have:LB^E*2≤LB^E*LB:=Nat.mul_le_mul_left _ (by unfold LB;decide)
  unfold LB at *
  omega
 have hA:=Lib.hid (fun W h g=>Kh W (.slice A L c) (.slice B K d) n m h g (by omega) (by omega) _ rfl)
 have hM:=Lib.hid (fun W v (h:Un W v (n+m))=>dL W p v (limbs (n+m)) h hsl _ (aI _) y hy)
 clear hl hl2 hu hv hy kZ vW hsl
 all_goals (
  go_enter Tryz.func55,Tryz.ntmps55
  go_wp2
  go_region_held3 (fun X=>(w.heap.size+1+1<X.heap.size∧X.cell? ⟨w.heap.size,0,none⟩=some (.bool p)∧X.cell? ⟨w.heap.size,1,none⟩=some (.slice A L c)∧X.cell? ⟨w.heap.size+1,0,none⟩=some (.bool p)∧X.cell? ⟨w.heap.size+1,1,none⟩=some (.slice B K d))∧Ext w X)
   (first
    | assumption
    | exact hS0
    | exact uB (by assumption) (by assumption)
    | exact uC (by assumption))
   (first
    | (go_at_call 95;((with_reducible refine (hA.out _ hu0 hv0).mono ?_);rintro e w2 ⟨u,rfl,hu2,hE2⟩;obtain ⟨A2,c2,rfl,-⟩:=Un.sh hu2))
    | (go_at_call 62;((with_reducible refine (hM.out _ _ hu2).mono ?_);rintro e w3 ⟨u,rfl,hz3,aO⟩;obtain ⟨b3,A3,L3,c3,rfl⟩:=hz3.sh;have nX:=(hI0.ext hE2).ext aO;obtain ⟨i0,i1,i2,i3,i4⟩:=id nX)))
  clear nX hA hM
  go_wp2
  (try simp only [Exit.inBlock,Exit.then])
  refine bodyPost_ret (v:=.agg #[.bool b3,.slice A3 L3 c3]) (show (results _ _).run _ _=_ from ?_) rfl ⟨_,rfl,hz3.fZ ((hI0.ext hE2).ext aO) (dw _ _ _) _ _,((hE0.below hE2).below aO).fZ (by omega) _ _⟩
  simp only [results]
  go_simp)
theorem uD (w:World) (p:Bool) (A B:Option Addr) (L K c d n m:Nat) (hu:Un w (.slice A L c) n) (hv:Un w (.slice B K d) m) (hl:(limbs n).length≤1000000) (hl2:(limbs m).length≤1000000) (y:Int) (hy:(if m≤n then sg p (n-m) else sg (!p) (m-n))=y) :
  Calls Tryz.prog 55 #[.agg #[.bool p,.slice A L c],.agg #[.bool (!p),.slice B K d]] w fun e w'=>∃ u,e = .returned u∧Zn w' u y∧Ext w w':=by
 have hE0:=(((Ext.refl w).alloc (.cells #[.bool p,.slice A L c] 24)).alloc (.cells #[.bool (!p),.slice B K d] 24)).alloc (.cells #[.bool false,.slice none 0 0] 24)
 have hI0:=Ib.zu w (.cells #[.bool p,.slice A L c] 24) (.cells #[.bool (!p),.slice B K d] 24) false (.slice none 0 0) 24
 have kZ:=(Ib.new w p (.slice A L c) 24).ext (((Ext.refl _).alloc (.cells #[.bool (!p),.slice B K d] 24)).alloc (.cells #[.bool false,.slice none 0 0] 24))
 have vW:=(Ib.new2 w (.cells #[.bool p,.slice A L c] 24) (!p) (.slice B K d) 24).ext ((Ext.refl _).alloc (.cells #[.bool false,.slice none 0 0] 24))
 have hu0:=hu.below hE0
 have hv0:=hv.below hE0
 obtain ⟨d1,hd1⟩:∃ d,n-m=d:=⟨_,rfl⟩
 obtain ⟨d2,hd2⟩:∃ d,m-n=d:=⟨_,rfl⟩
 have hl3:(limbs d1).length≤1000000000:=by have:=mJ (show d1≤n by omega);omega
 have hl4:(limbs d2).length≤1000000000:=by have:=mJ (show d2≤m by omega);omega
 rw [hd1,hd2] at hy
 by_cases h0:m≤n
 · rw [if_pos h0] at hy
   have hA:=Lib.hid (fun W h g=>xI W (.slice A L c) (.slice B K d) n m h g (by omega) (by omega) true (decide_eq_true h0) d1 hd1)
   have hM:=Lib.hid (fun W v (h:Un W v d1)=>dL W p v (limbs d1) h hl3 _ (aI _) y hy)
   clear hl hl2 hu hv hy hl3 hl4 hd1 hd2 h0
   cases p
   all_goals (
    go_enter Tryz.func55,Tryz.ntmps55
    go_wp2_with (first
     | (go_at_call 96;refine (hA.out _ hu0 hv0).mono ?_;rintro e w2 ⟨u,rfl,hu2,hE2⟩;obtain ⟨A2,c2,rfl,-⟩:=Un.sh hu2;obtain ⟨p0,p1,p2,p3,p4⟩:=kZ.ext hE2;obtain ⟨q0,q1,q2,q3,q4⟩:=vW.ext hE2)
     | (go_at_call 62;refine (hM.out _ _ hu2).mono ?_;rintro e w3 ⟨u,rfl,hz3,aO⟩;obtain ⟨b3,A3,L3,c3,rfl⟩:=hz3.sh;have nX:=(hI0.ext hE2).ext aO;obtain ⟨i0,i1,i2,i3,i4⟩:=id nX))
    (try simp only [Exit.inBlock,Exit.then])
    refine bodyPost_ret (v:=.agg #[.bool b3,.slice A3 L3 c3]) (show (results _ _).run _ _=_ from ?_) rfl ⟨_,rfl,hz3.fZ ((hI0.ext hE2).ext aO) (dw _ _ _) _ _,((hE0.below hE2).below aO).fZ (by omega) _ _⟩
    simp only [results]
    go_simp)
 · rw [if_neg h0] at hy
   have hA:=Lib.hid (fun W h g=>xI W (.slice A L c) (.slice B K d) n m h g (by omega) (by omega) false (decide_eq_false h0) d1 hd1)
   have hA2:=Lib.hid (fun W h g=>xI W (.slice B K d) (.slice A L c) m n h g (by omega) (by omega) _ rfl d2 hd2)
   have hM:=Lib.hid (fun W v (h:Un W v d2)=>dL W (!p) v (limbs d2) h hl4 _ (aI _) y hy)
   clear hl hl2 hu hv hy hl3 hl4 hd1 hd2 h0
   cases p
   all_goals (
    go_enter Tryz.func55,Tryz.ntmps55
    go_upto_region 6 with (go_at_call 96;refine (hA.out _ hu0 hv0).mono ?_;rintro e w2 ⟨u,rfl,hu2,hE2⟩;obtain ⟨A2,c2,rfl,-⟩:=Un.sh hu2;obtain ⟨p0,p1,p2,p3,p4⟩:=kZ.ext hE2;obtain ⟨q0,q1,q2,q3,q4⟩:=vW.ext hE2)
    go_wp2_with (first
     | (go_at_call 96;refine (hA2.out _ (Un.below hv0 hE2) (Un.below hu0 hE2)).mono ?_;rintro e w4 ⟨u,rfl,Ki,aR⟩;obtain ⟨A4,c4,rfl,-⟩:=Un.sh Ki;obtain ⟨p0,p1,p2,p3,p4⟩:=(kZ.ext hE2).ext aR;obtain ⟨q0,q1,q2,q3,q4⟩:=(vW.ext hE2).ext aR)
     | (go_at_call 62;refine (hM.out _ _ Ki).mono ?_;rintro e w3 ⟨u,rfl,hz3,aO⟩;obtain ⟨b3,A3,L3,c3,rfl⟩:=hz3.sh;have nX:=((hI0.ext hE2).ext aR).ext aO;obtain ⟨i0,i1,i2,i3,i4⟩:=id nX))
    (try simp only [Exit.inBlock,Exit.then])
    refine bodyPost_ret (v:=.agg #[.bool b3,.slice A3 L3 c3]) (show (results _ _).run _ _=_ from ?_) rfl ⟨_,rfl,hz3.fZ (((hI0.ext hE2).ext aR).ext aO) (dw _ _ _) _ _,(((hE0.below hE2).below aR).below aO).fZ (by omega) _ _⟩
    simp only [results]
    go_simp)
theorem IC (w:World) (va vb:Value) (a b:Int) (ha:Zn w va a) (hb:Zn w vb b) (hl:(limbs a.natAbs).length≤1000000) (hl2:(limbs b.natAbs).length≤1000000) (y:Int) (hy:a+b=y) :
  Calls Tryz.prog 55 #[va,vb] w fun e w'=>∃ u,e = .returned u∧Zn w' u y∧Ext w w':=by
 obtain ⟨p,A,L,c,n,rfl,hu,hL,hz,-,hza,hzn⟩:=ha.open
 obtain ⟨q,B,K,d,m,rfl,hv,hK,hz2,-,pJ,tZ⟩:=hb.open
 rw [hza] at hl
 rw [pJ] at hl2
 rw [hz,hz2] at hy
 by_cases h:q=p
 · subst h
   exact vX w q A B L K c d n m hu hv hl hl2 y ((ww _ _ _).trans hy)
 · obtain rfl:q = !p:=by cases p<;>cases q<;>first | rfl | exact absurd rfl h
   exact uD w p A B L K c d n m hu hv hl hl2 y ((uN _ _ _).trans hy)
theorem ry (w:World) (va vb:Value) (a b:Int) (ha:Zn w va a) (hb:Zn w vb b) (hl:(limbs a.natAbs).length≤398) (hl2:(limbs b.natAbs).length≤398) (y:Int) (hy:a*b=y) :
  Calls Tryz.prog 91 #[va,vb] w fun e w'=>∃ u,e = .returned u∧Zn w' u y∧Ext w w':=by
 obtain ⟨p,A,L,c,n,rfl,hu,hL,hz,-,hza,hzn⟩:=ha.open
 obtain ⟨q,B,K,d,m,rfl,hv,hK,hz2,-,pJ,tZ⟩:=hb.open
 rw [hza] at hl
 rw [pJ] at hl2
 obtain ⟨k,hk⟩:∃ k,n*m=k:=⟨_,rfl⟩
 have hM:=Lib.hid (fun W h g=>Ca W (.slice A L c) (.slice B K d) n m k h g hl hl2 hk)
 have hkl:(limbs k).length≤1000000000:=by
  have:=xJ n m
  rw [hk] at this
  omega
 have Kg:=Lib.hid (fun W v (h:Un W v k)=>dL W (!(p==q)) v (limbs k) h hkl k (aI _) y (by rw [← hk,xH,← hz,← hz2];exact hy))
 have hE0:=((((Ext.refl w).alloc (.cells #[.bool p,.slice A L c] 24)).alloc (.cells #[.bool q,.slice B K d] 24)).alloc (.cells #[.bool false,.slice none 0 0] 24)).drew
 have hI0:=(Ib.zu w (.cells #[.bool p,.slice A L c] 24) (.cells #[.bool q,.slice B K d] 24) false (.slice none 0 0) 24).ext (Ext.refl _).drew
 have kZ:=(Ib.new w p (.slice A L c) 24).ext ((((Ext.refl _).alloc (.cells #[.bool q,.slice B K d] 24)).alloc (.cells #[.bool false,.slice none 0 0] 24)).drew)
 have vW:=(Ib.new2 w (.cells #[.bool p,.slice A L c] 24) q (.slice B K d) 24).ext (((Ext.refl _).alloc (.cells #[.bool false,.slice none 0 0] 24)).drew)
 have hu0:=hu.below hE0
 have hv0:=hv.below hE0
 obtain ⟨p0,p1,p2,p3,p4⟩:=id kZ
 obtain ⟨q0,q1,q2,q3,q4⟩:=id vW
 clear hl hl2 hza hzn pJ tZ hz hz2 hL hK ha hb hy hk
 go_enter Tryz.func91,Tryz.ntmps91
 have hS0:(w.heap.size+1+1<(((w.alloc (.cells #[.bool p,.slice A L c] 24)).alloc (.cells #[.bool q,.slice B K d] 24)).alloc (.cells #[.bool false,.slice none 0 0] 24)).drew.heap.size∧(((w.alloc (.cells #[.bool p,.slice A L c] 24)).alloc (.cells #[.bool q,.slice B K d] 24)).alloc (.cells #[.bool false,.slice none 0 0] 24)).drew.cell? ⟨w.heap.size,0,none⟩=some (.bool p)∧(((w.alloc (.cells #[.bool p,.slice A L c] 24)).alloc (.cells #[.bool q,.slice B K d] 24)).alloc (.cells #[.bool false,.slice none 0 0] 24)).drew.cell? ⟨w.heap.size,1,none⟩=some (.slice A L c)∧(((w.alloc (.cells #[.bool p,.slice A L c] 24)).alloc (.cells #[.bool q,.slice B K d] 24)).alloc (.cells #[.bool false,.slice none 0 0] 24)).drew.cell? ⟨w.heap.size+1,0,none⟩=some (.bool q)∧(((w.alloc (.cells #[.bool p,.slice A L c] 24)).alloc (.cells #[.bool q,.slice B K d] 24)).alloc (.cells #[.bool false,.slice none 0 0] 24)).drew.cell? ⟨w.heap.size+1,1,none⟩=some (.slice B K d))∧Ext w (((w.alloc (.cells #[.bool p,.slice A L c] 24)).alloc (.cells #[.bool q,.slice B K d] 24)).alloc (.cells #[.bool false,.slice none 0 0] 24)).drew:=⟨⟨by simp,p1,p2,q1,q2⟩,hE0⟩
 clear p0 p1 p2 p3 p4 q0 q1 q2 q3 q4
 go_wp2
 go_region_held3 (fun X=>(w.heap.size+1+1<X.heap.size∧X.cell? ⟨w.heap.size,0,none⟩=some (.bool p)∧X.cell? ⟨w.heap.size,1,none⟩=some (.slice A L c)∧X.cell? ⟨w.heap.size+1,0,none⟩=some (.bool q)∧X.cell? ⟨w.heap.size+1,1,none⟩=some (.slice B K d))∧Ext w X)
  (first
   | exact hS0
   | exact uB (by assumption) (by assumption)
   | exact uC (by assumption))
  (first
   | (go_at_call 128;((with_reducible refine (hM.out _ hu0 hv0).mono ?_);rintro e w2 ⟨u,rfl,hu2,hE2⟩;obtain ⟨A2,c2,rfl,hc2⟩:=Un.sh hu2))
   | (go_at_call 62;((with_reducible refine (Kg.out _ _ hu2).mono ?_);rintro e w3 ⟨u,rfl,hz3,aO⟩;obtain ⟨b3,A3,L3,c3,rfl⟩:=hz3.sh;have nX:=(hI0.ext hE2).ext aO;obtain ⟨i0,i1,i2,i3,i4⟩:=id nX)))
 clear nX hM Kg
 go_wp2
 (try simp only [Exit.inBlock,Exit.then])
 refine bodyPost_ret (v:=.agg #[.bool b3,.slice A3 L3 c3]) (show (results _ _).run _ _=_ from ?_) rfl ⟨_,rfl,hz3.fZ ((hI0.ext hE2).ext aO) (dw _ _ _) _ _,((hE0.below hE2).below aO).fZ (by omega) _ _⟩
 simp only [results]
 go_simp
end Go.Proofs.YtdpmbgomcjnohaaGreatDoor
namespace Go.Proofs.YtdpmbgomcjnohaaGreatDoor
open Go.RowKit
set_option linter.all false
set_option maxRecDepth 100000
set_option maxHeartbeats 8000000
theorem vR (w:World) (va:Value) (b:Bool) (xs:List Nat) (ha:Ri w va b xs) (k:Int) (hk0:0≤k) (hk1:k≤1000000) (n:Nat) (hn:gN xs k.toNat=n) (hl:(limbs n).length≤1000000) (y:Int) (hy:sg b n=y) :
  Calls Tryz.prog 16 #[va,.int .i64 k] w fun e w'=>∃ u,e = .returned u∧Zn w' u y∧Ext w w':=by
 obtain ⟨A,c,rfl,hu⟩:=ha
 obtain ⟨L,hL⟩:∃ L,xs.length=L:=⟨_,rfl⟩
 have ED:=Lib.hid (fun W h=>uh W (.slice A xs.length c) xs k h hk0 (by omega) n hn)
 rw [hL] at ED hu ⊢
 have hE0:=(((Ext.refl w).alloc (.cells #[.bool b,.slice A L c] 24)).alloc (.cells #[.bool false,.slice none 0 0] 24)).drew
 have hI0:=(Ib.new2 w (.cells #[.bool b,.slice A L c] 24) false (.slice none 0 0) 24).ext (Ext.refl _).drew
 have kZ:=(Ib.new w b (.slice A L c) 24).ext (((Ext.refl _).alloc (.cells #[.bool false,.slice none 0 0] 24)).drew)
 have hS0:(w.heap.size+1<((w.alloc (.cells #[.bool b,.slice A L c] 24)).alloc (.cells #[.bool false,.slice none 0 0] 24)).drew.heap.size∧((w.alloc (.cells #[.bool b,.slice A L c] 24)).alloc (.cells #[.bool false,.slice none 0 0] 24)).drew.cell? ⟨w.heap.size,0,none⟩=some (.bool b)∧((w.alloc (.cells #[.bool b,.slice A L c] 24)).alloc (.cells #[.bool false,.slice none 0 0] 24)).drew.cell? ⟨w.heap.size,1,none⟩=some (.slice A L c))∧Ext w ((w.alloc (.cells #[.bool b,.slice A L c] 24)).alloc (.cells #[.bool false,.slice none 0 0] 24)).drew:=⟨⟨by simp,kZ.2.1,kZ.2.2.1⟩,hE0⟩
 have hu0:=hu.below hE0
 have hM1:=Lib.hid (fun W v (h:Un W v n)=>dL W b v (limbs n) h (by omega) n (aI _) y hy)
 clear kZ hy hn hL hl hu hk0 hk1
 go_enter Tryz.func16,Tryz.ntmps16
 go_wp2
 go_region_held3 (fun X=>(w.heap.size+1<X.heap.size∧X.cell? ⟨w.heap.size,0,none⟩=some (.bool b)∧X.cell? ⟨w.heap.size,1,none⟩=some (.slice A L c))∧Ext w X)
  (first
   | assumption
   | with_reducible exact hS0
   | with_reducible exact vP (by assumption)
   | exact vO (by assumption) (by assumption))
  (first
   | (go_at_call 63;((with_reducible refine (ED.out _ hu0).mono ?_);rintro e w2 ⟨u,rfl,hu2,hE2⟩;obtain ⟨A2,c2,rfl,-⟩:=Un.sh hu2))
   | (go_at_call 62;((with_reducible refine (hM1.out _ _ hu2).mono ?_);rintro e w3 ⟨u,rfl,hz3,aO⟩;obtain ⟨b3,A3,L3,c3,rfl⟩:=hz3.sh;have nX:=(hI0.ext hE2).ext aO;obtain ⟨i0,i1,i2,i3,i4⟩:=id nX)))
 clear nX ED hM1
 go_wp2
 (try simp only [Exit.inBlock,Exit.then])
 refine bodyPost_ret (v:=.agg #[.bool b3,.slice A3 L3 c3]) (show (results _ _).run _ _=_ from ?_) rfl ⟨_,rfl,hz3.fZ ((hI0.ext hE2).ext aO) (dw _ _ _) _ _,((hE0.below hE2).below aO).fZ (by omega) _ _⟩
 simp only [results]
 go_simp
end Go.Proofs.YtdpmbgomcjnohaaGreatDoor
namespace Go.Proofs.YtdpmbgomcjnohaaGreatDoor
open Go.RowKit
set_option linter.all false
set_option maxRecDepth 100000
set_option maxHeartbeats 8000000
theorem bX (a:Int) (i:Nat):shl a (-(i:Int))=a/2^i:=by
 unfold shl
 rcases Nat.eq_zero_or_pos i with rfl | h
 · simp
 · rw [if_neg (by omega),Int.neg_neg];rfl
theorem oU (w:World) (va:Value) (b:Bool) (xs:List Nat) (ha:Ri w va b xs) (k:Nat) (z:Int) (hz:z=(k:Int)) (hk1:k≤1000000) (y:Int) (hy:sg b (gN xs k)=y) :
  Calls Tryz.prog 16 #[va,.int .i64 z] w fun e w'=>∃ u,e = .returned u∧Zn w' u y∧Ext w w':=by
 subst hz
 obtain ⟨A,c,e,hu⟩:=id ha
 exact vR w va b xs ha (k:Int) (by omega) (by omega) (gN xs k) rfl (Nat.le_trans (kW xs k hu.lim) hk1) y hy
end Go.Proofs.YtdpmbgomcjnohaaGreatDoor
namespace Go.Proofs.YtdpmbgomcjnohaaGreatDoor
open Go.RowKit 
set_option linter.all false
set_option maxRecDepth 100000
set_option maxHeartbeats 8000000
theorem zV {m e:Int} (h:Dy.Can m e):Dy.Can (-m) e:=by
 unfold Dy.Can at *;omega
theorem C9 {m e:Int} {x:Rat} (h:Dy.dv m e=x):Dy.dv (-m) e = -x:=by rw [Dy.Kb,h]
theorem rz (w:World) (va:Value) (x:Rat) (L:Nat) (lo hi:Int) (ha:Dn w va x L lo hi) :
  Calls Tryz.prog 24 #[va] w fun e w'=>∃ u,e = .returned u∧Dn w' u (-x) L lo hi∧Pl.Ex w w':=by
 obtain ⟨ma,ea,Aa,ca,rfl,ua,da⟩:=ha
 have CF:=da.lo
 have CG:=da.hi
 refine Pl.bL (n:=9) (vs:=[.agg #[.bool (decide (ma<0)),.slice Aa (limbs (Int.natAbs ma)).length ca,.int .i64 ea]]) Tryz.func24 rfl (by kernel_rfl) (by simp) ?_
 repeat refine Pl.ay ?_
 refine Pl.aB (by kernel_rfl) ?_
 refine Pl.dN (cs:=[.bool (decide (ma<0)),.slice Aa (limbs (Int.natAbs ma)).length ca,.int .i64 ea]) rfl rfl rfl rfl rfl rfl (fun Y hY=>trivial) ?_
 intro N1 w1 hE1 eP aC
 have ig:=Pl.Cb.lt aC
 have mH:=Pl.Ex.size hE1
 refine Pl.aU (z:=.agg #[.bool false,.slice none 0 0,.int .i64 0]) (by kernel_rfl) rfl rfl rfl rfl (fun Y hY=>trivial) ?_
 intro N2 w2 hE2 gD aD
 have iB:=Pl.Cb.lt aD
 have mY:=Pl.Ex.size hE2
 replace aD:Pl.Cb w2 N2 26 [.bool false,.slice none 0 0,.int .i64 0]:=aD
 refine Pl.af ?_
 repeat refine Pl.ay ?_
 refine Pl.fJ (S:=fun X=>Pl.Ex w1 X) [(true,0,0),(true,1,1),(true,3,3),(true,4,11),(false,2,27),(true,5,31),(false,6,63)] fo Pl.az (by kernel_rfl) (Pl.Ex.trans hE2 (Pl.Ex.drew _)) ?_
 have aO:=Pl.Ex.drew w2
 generalize w2.drew=w3 at *
 have mZ:=Pl.Ex.size aO
 intro eY
 refine Pl.bC (.pointer (some ⟨N1,0,none⟩)) eY rfl rfl rfl rfl (fun X=>by kernel_rfl) ?_
 refine Pl.bT (part:=[.bool (decide (ma<0)),.slice Aa (limbs (Int.natAbs ma)).length ca]) (fun X hX=>Pl.Cb.ex aC hX) rfl Tryz.underlying24 rfl (by kernel_rfl) eY rfl rfl rfl rfl rfl ?_
 refine Pl.bC (.pointer (some ⟨N1,2,none⟩)) eY rfl rfl rfl rfl (fun X=>by kernel_rfl) ?_
 refine Pl.iE (v:=.int .i64 ea) Tryz.underlying3 rfl (fun X hX=>Pl.Cb.at (j:=2) (Pl.Cb.ex aC hX) rfl) eY rfl rfl rfl rfl rfl ?_
 refine Pl.ah rfl rfl rfl rfl rfl (fun u X=>Pl.enters Tryz.func71 (by kernel_rfl) rfl u X) ?_
 refine Calls.mono (Qw _ _ ma (Zn.of (Un.below ua (Pl.Ex.trans hE1 (Pl.Ex.trans hE2 aO)))) _ rfl) ?_
 rintro e w4 ⟨v3,rfl,hv3,aR⟩
 obtain ⟨A4,c5,rfl,u6⟩:=hv3
 have l9:=Pl.Ex.size aR
 have dP:=Pl.Ex.trans eY aR
 refine ⟨_,rfl,dP,?_⟩
 refine Pl.bC (.agg #[.bool (decide ((-ma)<0)),.slice A4 (limbs (Int.natAbs (-ma))).length c5,.int .i64 ea]) dP rfl rfl rfl rfl (fun X=>by kernel_rfl) ?_
 refine Pl.bg (new:=[.bool (decide ((-ma)<0)),.slice A4 (limbs (Int.natAbs (-ma))).length c5,.int .i64 ea]) (Pl.Cb.ex aD (Pl.Ex.trans aO aR)) (by kernel_rfl) rfl (by simp [Value.oneCell']) rfl rfl rfl rfl rfl rfl (fun Y hY=>Pl.Ex.xs dP hY (by omega)) ?_
 intro w5 kF dG
 have aP:=Pl.Ex.xs (Pl.Ex.trans hE2 (Pl.Ex.trans aO aR)) kF (by omega)
 have jY:=Pl.Xs.size kF
 have hS5:=Pl.Ex.xs dP kF (by omega)
 refine Pl.af ?_
 have k7:=Un.xs u6 kF (Pl.Cb.ex aD (Pl.Ex.trans aO aR)) (by simp)
 repeat refine Pl.ay ?_
 exact Pl.cO rfl rfl dG Tryz.underlying26 rfl (by kernel_rfl) (⟨_,rfl,Dn.mk k7 (zV da.can) (C9 da.val) (Sz.neg da.sz) da.lo da.hi,(Pl.Ex.trans hE1 aP)⟩)
end Go.Proofs.YtdpmbgomcjnohaaGreatDoor
namespace Go.Proofs.YtdpmbgomcjnohaaGreatDoor
open Go.RowKit 
set_option linter.all false
set_option maxRecDepth 100000
set_option maxHeartbeats 8000000
theorem sK (w:World) (hg:Gt w) (va vb:Value) (x y:Rat) (L J:Nat) (lo hi:Int) (ha:Dn w va x L lo hi) (hb:Dn w vb y L lo hi) (hJ:hi-lo≤32*J) (hL:L+J+1≤20000) (hlo : -900000≤lo) (hhi:hi≤900000) (lo2 hi2:Int) (h1:lo2≤lo-1) (h2:hi+32*(L+J+1:Nat)≤hi2) (h3:lo2≤0) (h4:0≤hi2) :
  Calls Tryz.prog 28 #[va,vb] w fun e w'=>∃ u,e = .returned u∧Dn w' u (x-y) (L+J+1) lo2 hi2∧Pl.Ex w w':=by
 obtain ⟨ma,ea,Aa,ca,rfl,ua,da⟩:=ha
 have CF:=da.lo
 have CG:=da.hi
 obtain ⟨mb,eb,Ab,cb,rfl,ub,db⟩:=hb
 have Ob:=db.lo
 have Oc:=db.hi
 refine Pl.bL (n:=9) (vs:=[.agg #[.bool (decide (ma<0)),.slice Aa (limbs (Int.natAbs ma)).length ca,.int .i64 ea],.agg #[.bool (decide (mb<0)),.slice Ab (limbs (Int.natAbs mb)).length cb,.int .i64 eb]]) Tryz.func28 rfl (by kernel_rfl) (by simp) ?_
 repeat refine Pl.ay ?_
 refine Pl.aB (by kernel_rfl) ?_
 refine Pl.dN (cs:=[.bool (decide (ma<0)),.slice Aa (limbs (Int.natAbs ma)).length ca,.int .i64 ea]) rfl rfl rfl rfl rfl rfl (fun Y hY=>trivial) ?_
 intro N1 w1 hE1 eP aC
 have ig:=Pl.Cb.lt aC
 have mH:=Pl.Ex.size hE1
 refine Pl.dN (cs:=[.bool (decide (mb<0)),.slice Ab (limbs (Int.natAbs mb)).length cb,.int .i64 eb]) rfl rfl rfl rfl rfl rfl (fun Y hY=>trivial) ?_
 intro N2 w2 hE2 gD aD
 have iB:=Pl.Cb.lt aD
 have mY:=Pl.Ex.size hE2
 refine Pl.aU (z:=.agg #[.bool false,.slice none 0 0,.int .i64 0]) (by kernel_rfl) rfl rfl rfl rfl (fun Y hY=>trivial) ?_
 intro N3 w3 aO jP aL
 have iJ:=Pl.Cb.lt aL
 have mZ:=Pl.Ex.size aO
 replace aL:Pl.Cb w3 N3 26 [.bool false,.slice none 0 0,.int .i64 0]:=aL
 refine Pl.af ?_
 repeat refine Pl.ay ?_
 refine Pl.fJ (S:=fun X=>Pl.Ex w2 X) [(true,0,0),(true,1,1),(false,2,3),(false,3,7),(false,4,15)] fo Pl.az (by kernel_rfl) (Pl.Ex.trans aO (Pl.Ex.drew _)) ?_
 have aR:=Pl.Ex.drew w3
 generalize w3.drew=w4 at *
 have l9:=Pl.Ex.size aR
 intro dP
 refine Pl.bT (part:=[.bool (decide (ma<0)),.slice Aa (limbs (Int.natAbs ma)).length ca,.int .i64 ea]) (fun X hX=>Pl.Cb.ex (Pl.Cb.ex aC hE2) hX) rfl Tryz.underlying26 rfl (by kernel_rfl) dP rfl rfl rfl rfl rfl ?_
 refine Pl.bT (part:=[.bool (decide (mb<0)),.slice Ab (limbs (Int.natAbs mb)).length cb,.int .i64 eb]) (fun X hX=>Pl.Cb.ex aD hX) rfl Tryz.underlying26 rfl (by kernel_rfl) dP rfl rfl rfl rfl rfl ?_
 refine Pl.ah rfl rfl rfl rfl rfl (fun u X=>Pl.enters Tryz.func24 (by kernel_rfl) rfl u X) ?_
 refine Calls.mono (rz _ _ y _ _ _ (Dn.mk (Un.below ub (Pl.Ex.trans hE1 (Pl.Ex.trans hE2 (Pl.Ex.trans aO aR)))) db.can db.val db.sz db.lo db.hi)) ?_
 rintro e w5 ⟨vn,rfl,Qx,aP⟩
 obtain ⟨mn,en,An,cn,rfl,un,dn⟩:=Qx
 have jY:=Pl.Ex.size aP
 have hS5:=Pl.Ex.trans dP aP
 refine ⟨_,rfl,hS5,?_⟩
 refine Pl.ah rfl rfl rfl rfl rfl (fun u X=>Pl.enters Tryz.func26 (by kernel_rfl) rfl u X) ?_
 refine Calls.mono (lG _ (hg.ext (Pl.Ex.trans hE1 (Pl.Ex.trans hE2 (Pl.Ex.trans aO (Pl.Ex.trans aR aP))))) _ _ x (-y) L J lo hi (Dn.mk (Un.below ua (Pl.Ex.trans hE1 (Pl.Ex.trans hE2 (Pl.Ex.trans aO (Pl.Ex.trans aR aP))))) da.can da.val da.sz da.lo da.hi) (Dn.mk un dn.can dn.val dn.sz dn.lo dn.hi) hJ hL hlo hhi lo2 hi2 h1 h2 h3 h4) ?_
 rintro e w6 ⟨vs,rfl,hvs,aM⟩
 rw [← Rat.sub_eq_add_neg] at hvs
 obtain ⟨m1,e1,A1,c1,rfl,u1,d1⟩:=hvs
 have jr:=Pl.Ex.size aM
 have bS:=Pl.Ex.trans hS5 aM
 refine ⟨_,rfl,bS,?_⟩
 refine Pl.bg (new:=[.bool (decide (m1<0)),.slice A1 (limbs (Int.natAbs m1)).length c1,.int .i64 e1]) (Pl.Cb.ex aL (Pl.Ex.trans aR (Pl.Ex.trans aP aM))) (by kernel_rfl) rfl (by simp [Value.oneCell']) rfl rfl rfl rfl rfl rfl (fun Y hY=>Pl.Ex.xs bS hY (by omega)) ?_
 intro w7 gP dX
 have aH:=Pl.Ex.xs (Pl.Ex.trans aO (Pl.Ex.trans aR (Pl.Ex.trans aP aM))) gP (by omega)
 have iU:=Pl.Xs.size gP
 have bE:=Pl.Ex.xs bS gP (by omega)
 refine Pl.af ?_
 have k4:=Un.xs u1 gP (Pl.Cb.ex aL (Pl.Ex.trans aR (Pl.Ex.trans aP aM))) (by simp)
 repeat refine Pl.ay ?_
 exact Pl.cO rfl rfl dX Tryz.underlying26 rfl (by kernel_rfl) (⟨_,rfl,(Dn.mk k4 d1.can d1.val d1.sz d1.lo d1.hi),(Pl.Ex.trans hE1 (Pl.Ex.trans hE2 aH))⟩)
theorem lW (w:World) (hg:Gt w) (va vb:Value) (x y:Rat) (L M:Nat) (lo hi:Int) (ha:Dn w va x L lo hi) (hb:Dn w vb y M lo hi) (hL:L≤398) (hM:M≤398) (hlo : -400000≤lo) (hhi:hi≤400000) (lo2 hi2:Int) (h1:lo2≤lo+lo) (h2:hi+hi+32*(L+M:Nat)≤hi2) (h3:lo2≤0) (h4:0≤hi2) :
  Calls Tryz.prog 30 #[va,vb] w fun e w'=>∃ u,e = .returned u∧Dn w' u (x*y) (L+M) lo2 hi2∧Pl.Ex w w':=by
 obtain ⟨ma,ea,Aa,ca,rfl,ua,da⟩:=ha
 have CF:=da.lo
 have CG:=da.hi
 obtain ⟨mb,eb,Ab,cb,rfl,ub,db⟩:=hb
 have Ob:=db.lo
 have Oc:=db.hi
 have hsm:Sz (ma*mb) (L+M):=Sz.mul da.sz db.sz (Nat.le_refl _)
 refine Pl.bL (n:=16) (vs:=[.agg #[.bool (decide (ma<0)),.slice Aa (limbs (Int.natAbs ma)).length ca,.int .i64 ea],.agg #[.bool (decide (mb<0)),.slice Ab (limbs (Int.natAbs mb)).length cb,.int .i64 eb]]) Tryz.func30 rfl (by kernel_rfl) (by simp) ?_
 repeat refine Pl.ay ?_
 refine Pl.aB (by kernel_rfl) ?_
 refine Pl.dN (cs:=[.bool (decide (ma<0)),.slice Aa (limbs (Int.natAbs ma)).length ca,.int .i64 ea]) rfl rfl rfl rfl rfl rfl (fun Y hY=>trivial) ?_
 intro N1 w1 hE1 eP aC
 have ig:=Pl.Cb.lt aC
 have mH:=Pl.Ex.size hE1
 refine Pl.dN (cs:=[.bool (decide (mb<0)),.slice Ab (limbs (Int.natAbs mb)).length cb,.int .i64 eb]) rfl rfl rfl rfl rfl rfl (fun Y hY=>trivial) ?_
 intro N2 w2 hE2 gD aD
 have iB:=Pl.Cb.lt aD
 have mY:=Pl.Ex.size hE2
 refine Pl.aU (z:=.agg #[.bool false,.slice none 0 0,.int .i64 0]) (by kernel_rfl) rfl rfl rfl rfl (fun Y hY=>trivial) ?_
 intro N3 w3 aO jP aL
 have iJ:=Pl.Cb.lt aL
 have mZ:=Pl.Ex.size aO
 replace aL:Pl.Cb w3 N3 26 [.bool false,.slice none 0 0,.int .i64 0]:=aL
 refine Pl.af ?_
 repeat refine Pl.ay ?_
 refine Pl.fJ (S:=fun X=>Pl.Ex w2 X) [(true,0,0),(true,1,1),(true,2,3),(true,3,7),(true,5,15),(true,6,47),(true,7,111),(true,8,239),(true,9,495),(false,4,1007),(false,10,1023),(false,11,2047)] fo Pl.az (by kernel_rfl) (Pl.Ex.trans aO (Pl.Ex.drew _)) ?_
 have aR:=Pl.Ex.drew w3
 generalize w3.drew=w4 at *
 have l9:=Pl.Ex.size aR
 intro dP
 refine Pl.bC (.pointer (some ⟨N1,0,none⟩)) dP rfl rfl rfl rfl (fun X=>by kernel_rfl) ?_
 refine Pl.bT (part:=[.bool (decide (ma<0)),.slice Aa (limbs (Int.natAbs ma)).length ca]) (fun X hX=>Pl.Cb.ex (Pl.Cb.ex aC hE2) hX) rfl Tryz.underlying24 rfl (by kernel_rfl) dP rfl rfl rfl rfl rfl ?_
 refine Pl.bC (.pointer (some ⟨N2,0,none⟩)) dP rfl rfl rfl rfl (fun X=>by kernel_rfl) ?_
 refine Pl.bT (part:=[.bool (decide (mb<0)),.slice Ab (limbs (Int.natAbs mb)).length cb]) (fun X hX=>Pl.Cb.ex aD hX) rfl Tryz.underlying24 rfl (by kernel_rfl) dP rfl rfl rfl rfl rfl ?_
 refine Pl.bC (.pointer (some ⟨N1,2,none⟩)) dP rfl rfl rfl rfl (fun X=>by kernel_rfl) ?_
 refine Pl.iE (v:=.int .i64 ea) Tryz.underlying3 rfl (fun X hX=>Pl.Cb.at (j:=2) (Pl.Cb.ex (Pl.Cb.ex aC hE2) hX) rfl) dP rfl rfl rfl rfl rfl ?_
 refine Pl.bC (.pointer (some ⟨N2,2,none⟩)) dP rfl rfl rfl rfl (fun X=>by kernel_rfl) ?_
 refine Pl.iE (v:=.int .i64 eb) Tryz.underlying3 rfl (fun X hX=>Pl.Cb.at (j:=2) (Pl.Cb.ex aD hX) rfl) dP rfl rfl rfl rfl rfl ?_
 refine Pl.dO (v:=.int .i64 (ea+eb)) (fun X=>xG (by omega) X) dP rfl rfl rfl rfl rfl rfl ?_
 refine Pl.ah rfl rfl rfl rfl rfl (fun u X=>Pl.enters Tryz.func76 (by kernel_rfl) rfl u X) ?_
 refine Calls.mono (VQ _ _ _ ma mb (Zn.of (Un.below ua (Pl.Ex.trans hE1 (Pl.Ex.trans hE2 (Pl.Ex.trans aO aR))))) (Zn.of (Un.below ub (Pl.Ex.trans hE1 (Pl.Ex.trans hE2 (Pl.Ex.trans aO aR))))) (da.sz.le (by omega)) (db.sz.le (by omega)) _ rfl) ?_
 rintro e w5 ⟨vs,rfl,hvs,aP⟩
 obtain ⟨As,cs,rfl,us⟩:=hvs
 have jY:=Pl.Ex.size aP
 have hS5:=Pl.Ex.trans dP aP
 refine ⟨_,rfl,hS5,?_⟩
 refine Pl.ah rfl rfl rfl rfl rfl (fun u X=>Pl.enters Tryz.func18 (by kernel_rfl) rfl u X) ?_
 refine Calls.mono (lU _ (hg.ext (Pl.Ex.trans hE1 (Pl.Ex.trans hE2 (Pl.Ex.trans aO (Pl.Ex.trans aR aP))))) _ (ma*mb) (ea+eb) (Zn.of us) (L+M) hsm (by omega) (by omega) lo2 hi2 (by omega) (by omega) (by omega) (by omega)) ?_
 rintro e w6 ⟨vd,rfl,hvd,aM⟩
 rw [Dy.M4,da.val,db.val] at hvd
 obtain ⟨m1,e1,A1,c1,rfl,u1,d1⟩:=hvd
 have jr:=Pl.Ex.size aM
 have bS:=Pl.Ex.trans hS5 aM
 refine ⟨_,rfl,bS,?_⟩
 refine Pl.bg (new:=[.bool (decide (m1<0)),.slice A1 (limbs (Int.natAbs m1)).length c1,.int .i64 e1]) (Pl.Cb.ex aL (Pl.Ex.trans aR (Pl.Ex.trans aP aM))) (by kernel_rfl) rfl (by simp [Value.oneCell']) rfl rfl rfl rfl rfl rfl (fun Y hY=>Pl.Ex.xs bS hY (by omega)) ?_
 intro w7 gP dX
 have aH:=Pl.Ex.xs (Pl.Ex.trans aO (Pl.Ex.trans aR (Pl.Ex.trans aP aM))) gP (by omega)
 have iU:=Pl.Xs.size gP
 have bE:=Pl.Ex.xs bS gP (by omega)
 refine Pl.af ?_
 have k4:=Un.xs u1 gP (Pl.Cb.ex aL (Pl.Ex.trans aR (Pl.Ex.trans aP aM))) (by simp)
 repeat refine Pl.ay ?_
 exact Pl.cO rfl rfl dX Tryz.underlying26 rfl (by kernel_rfl) (⟨_,rfl,(Dn.mk k4 d1.can d1.val d1.sz d1.lo d1.hi),(Pl.Ex.trans hE1 (Pl.Ex.trans hE2 aH))⟩)
end Go.Proofs.YtdpmbgomcjnohaaGreatDoor
namespace Go.Proofs.YtdpmbgomcjnohaaGreatDoor
open Go.RowKit 
set_option linter.all false
set_option maxRecDepth 100000
set_option maxHeartbeats 8000000
theorem mE (w:World) (vn vd:Value) (n d:Int) (q:Rat) (hn:Zn w vn n) (hd:Zn w vd d) (L M:Nat) (ln:Sz n L) (ld:Sz d M) (hL:L≤100) (hM:M≤100) (hd0:d≠0) (hq:Rat.divInt n d=q) :
  Calls Tryz.prog 83 #[vn,vd] w fun e w'=>∃ u,e = .returned u∧Qn w' u q L M∧Pl.Ex w w':=by
 obtain ⟨An,cn,rfl,un⟩:=hn
 obtain ⟨Ad,cd,rfl,ud⟩:=hd
 refine Pl.bL (n:=14) (vs:=[.agg #[.bool (decide (n<0)),.slice An (limbs (Int.natAbs n)).length cn],.agg #[.bool (decide (d<0)),.slice Ad (limbs (Int.natAbs d)).length cd]]) Tryz.func83 rfl (by kernel_rfl) (by simp) ?_
 repeat refine Pl.ay ?_
 refine Pl.aB (by kernel_rfl) ?_
 refine Pl.dN (cs:=[.bool (decide (n<0)),.slice An (limbs (Int.natAbs n)).length cn]) rfl rfl rfl rfl rfl rfl (fun Y hY=>trivial) ?_
 intro N1 w1 hE1 eP aC
 have ig:=Pl.Cb.lt aC
 have mH:=Pl.Ex.size hE1
 refine Pl.dN (cs:=[.bool (decide (d<0)),.slice Ad (limbs (Int.natAbs d)).length cd]) rfl rfl rfl rfl rfl rfl (fun Y hY=>trivial) ?_
 intro N2 w2 hE2 gD aD
 have iB:=Pl.Cb.lt aD
 have mY:=Pl.Ex.size hE2
 refine Pl.aU (z:=.agg #[.bool false,.slice none 0 0,.slice none 0 0]) (by kernel_rfl) rfl rfl rfl rfl (fun Y hY=>trivial) ?_
 intro N3 w3 aO jP aL
 have iJ:=Pl.Cb.lt aL
 have mZ:=Pl.Ex.size aO
 replace aL:Pl.Cb w3 N3 41 [.bool false,.slice none 0 0,.slice none 0 0]:=aL
 refine Pl.af ?_
 repeat refine Pl.ay ?_
 refine Pl.aB (by kernel_rfl) ?_
 refine Pl.dJ (part:=[.bool (decide (n<0)),.slice An (limbs (Int.natAbs n)).length cn]) (Pl.Cb.ex aC (Pl.Ex.trans hE2 aO)) rfl Tryz.underlying24 rfl (by kernel_rfl) trivial rfl rfl rfl rfl rfl ?_
 refine Pl.dJ (part:=[.bool (decide (d<0)),.slice Ad (limbs (Int.natAbs d)).length cd]) (Pl.Cb.ex aD aO) rfl Tryz.underlying24 rfl (by kernel_rfl) trivial rfl rfl rfl rfl rfl ?_
 refine Pl.ah rfl rfl rfl rfl rfl (fun u X=>Pl.enters Tryz.func97 (by kernel_rfl) rfl u X) ?_
 refine Calls.mono (oH _ _ _ n d (Zn.of (Un.below un (Pl.Ex.trans hE1 (Pl.Ex.trans hE2 aO)))) (Zn.of (Un.below ud (Pl.Ex.trans hE1 (Pl.Ex.trans hE2 aO)))) L M ln ld hL hM hd0) ?_
 rintro e w4 ⟨vq,rfl,zJ,aR⟩
 rw [hq] at zJ
 obtain ⟨A1,c1,A2,c2,rfl,u1,u2,z1,z2⟩:=zJ
 have l9:=Pl.Ex.size aR
 refine ⟨_,rfl,trivial,?_⟩
 refine Pl.aG trivial rfl ?_
 refine Pl.aU (z:=.agg #[.bool false,.slice none 0 0,.slice none 0 0]) (by kernel_rfl) rfl rfl rfl rfl (fun Y hY=>trivial) ?_
 intro N4 w5 aP iG aF
 have fE:=Pl.Cb.lt aF
 have jY:=Pl.Ex.size aP
 replace aF:Pl.Cb w5 N4 41 [.bool false,.slice none 0 0,.slice none 0 0]:=aF
 refine Pl.bg (new:=[.bool (decide ((Rat.num q)<0)),.slice A1 (limbs (Int.natAbs (Rat.num q))).length c1,.slice A2 (limbs (Rat.den q)).length c2]) aF (by kernel_rfl) rfl (by simp [Value.oneCell']) rfl rfl rfl rfl rfl rfl (fun Y hY=>trivial) ?_
 intro w6 lS fB
 have aM:=Pl.Ex.xs aP lS (by omega)
 have jr:=Pl.Xs.size lS
 refine Pl.aG trivial rfl ?_
 refine Pl.af ?_
 repeat refine Pl.ay ?_
 refine Pl.aB (by kernel_rfl) ?_
 refine Pl.dJ (part:=[.bool (decide ((Rat.num q)<0)),.slice A1 (limbs (Int.natAbs (Rat.num q))).length c1,.slice A2 (limbs (Rat.den q)).length c2]) fB rfl Tryz.underlying41 rfl (by kernel_rfl) trivial rfl rfl rfl rfl rfl ?_
 refine Pl.bg (new:=[.bool (decide ((Rat.num q)<0)),.slice A1 (limbs (Int.natAbs (Rat.num q))).length c1,.slice A2 (limbs (Rat.den q)).length c2]) (Pl.Cb.ex aL (Pl.Ex.trans aR aM)) (by kernel_rfl) rfl (by simp [Value.oneCell']) rfl rfl rfl rfl rfl rfl (fun Y hY=>trivial) ?_
 intro w7 gP dX
 have aH:=Pl.Ex.xs (Pl.Ex.trans aO (Pl.Ex.trans aR aM)) gP (by omega)
 have iU:=Pl.Xs.size gP
 have jZ:=Pl.Cb.xs fB gP (by simp;omega)
 refine Pl.af ?_
 have k5:=Un.xs (Un.below u1 aM) gP (Pl.Cb.ex aL (Pl.Ex.trans aR aM)) (by simp)
 have k6:=Un.xs (Un.below u2 aM) gP (Pl.Cb.ex aL (Pl.Ex.trans aR aM)) (by simp)
 repeat refine Pl.ay ?_
 exact Pl.cO rfl rfl dX Tryz.underlying41 rfl (by kernel_rfl) (⟨_,rfl,(Qn.mk k5 k6 z1 z2),(Pl.Ex.trans hE1 (Pl.Ex.trans hE2 aH))⟩)
end Go.Proofs.YtdpmbgomcjnohaaGreatDoor
namespace Go.Proofs.YtdpmbgomcjnohaaGreatDoor
open Go.RowKit 
set_option linter.all false
set_option maxRecDepth 100000
set_option maxHeartbeats 8000000
theorem Kj {p q:Rat} {k:Int} (h:jy (p.num*((q.den:Nat):Int)) (q.num*((p.den:Nat):Int))=k):JB p q k:=by
 have h1:=Ce h
 have a:=Rq.Df (a:=p) (b:=q)
 have b:=Rq.Df (a:=q) (b:=p)
 have c:=Rq.cmp_eq (a:=p) (b:=q)
 refine ⟨by omega,by omega,by rw [a];omega,by rw [c];omega,by rw [b];omega⟩
theorem QB {p:Rat} {k:Int} (h:Int.sign p.num=k):M0 p k:=by
 have h1:=yx h
 have a:=Rq.sign_neg (a:=p)
 have b:=Rq.sign_zero (a:=p)
 refine ⟨by omega,by omega,by rw [a];omega,by rw [b];omega,?_⟩
 rw [← Rat.not_le,Rat.le_iff_lt_or_eq,a,b]
 omega
theorem zw (w:World) (va vb:Value) (p q:Rat) (L M L2 M2:Nat) (ha:Qn w va p L M) (hb:Qn w vb q L2 M2) (hK:L+M2≤398) (hN:L2+M≤398) :
  Calls Tryz.prog 49 #[va,vb] w fun e w'=>∃ k:Int,e = .returned (.int .i64 k)∧JB p q k∧Pl.Ex w w':=by
 obtain ⟨Aa,ca,Ba,ba,rfl,ua,ta,za,ya⟩:=ha
 obtain ⟨Ab,cb,Bb,bb,rfl,ub,tb,zb,yb⟩:=hb
 refine Pl.bL (n:=18) (vs:=[.agg #[.bool (decide ((Rat.num p)<0)),.slice Aa (limbs (Int.natAbs (Rat.num p))).length ca,.slice Ba (limbs (Rat.den p)).length ba],.agg #[.bool (decide ((Rat.num q)<0)),.slice Ab (limbs (Int.natAbs (Rat.num q))).length cb,.slice Bb (limbs (Rat.den q)).length bb]]) Tryz.func49 rfl (by kernel_rfl) (by simp) ?_
 repeat refine Pl.ay ?_
 refine Pl.aB (by kernel_rfl) ?_
 refine Pl.dN (cs:=[.bool (decide ((Rat.num p)<0)),.slice Aa (limbs (Int.natAbs (Rat.num p))).length ca,.slice Ba (limbs (Rat.den p)).length ba]) rfl rfl rfl rfl rfl rfl (fun Y hY=>trivial) ?_
 intro N1 w1 hE1 eP aC
 have ig:=Pl.Cb.lt aC
 have mH:=Pl.Ex.size hE1
 refine Pl.dN (cs:=[.bool (decide ((Rat.num q)<0)),.slice Ab (limbs (Int.natAbs (Rat.num q))).length cb,.slice Bb (limbs (Rat.den q)).length bb]) rfl rfl rfl rfl rfl rfl (fun Y hY=>trivial) ?_
 intro N2 w2 hE2 gD aD
 have iB:=Pl.Cb.lt aD
 have mY:=Pl.Ex.size hE2
 refine Pl.aG trivial rfl ?_
 refine Pl.af ?_
 repeat refine Pl.ay ?_
 refine Pl.fJ (S:=fun X=>Pl.Ex w2 X) [(true,0,0),(true,1,1),(true,2,3),(true,3,7),(true,6,15),(true,7,79),(true,8,207),(true,9,463),(false,4,975),(false,5,991),(false,10,1023),(false,11,2047),(false,12,4095),(true,13,8191)] fo Pl.az (by kernel_rfl) (Pl.Ex.trans (Pl.Ex.refl _) (Pl.Ex.drew _)) ?_
 have aO:=Pl.Ex.drew w2
 generalize w2.drew=w3 at *
 have mZ:=Pl.Ex.size aO
 intro eY
 refine Pl.bC (.pointer (some ⟨N1,0,none⟩)) eY rfl rfl rfl rfl (fun X=>by kernel_rfl) ?_
 refine Pl.bT (part:=[.bool (decide ((Rat.num p)<0)),.slice Aa (limbs (Int.natAbs (Rat.num p))).length ca]) (fun X hX=>Pl.Cb.ex (Pl.Cb.ex aC hE2) hX) rfl Tryz.underlying24 rfl (by kernel_rfl) eY rfl rfl rfl rfl rfl ?_
 refine Pl.bC (.pointer (some ⟨N2,2,none⟩)) eY rfl rfl rfl rfl (fun X=>by kernel_rfl) ?_
 refine Pl.iE (v:=.slice Bb (limbs (Rat.den q)).length bb) Tryz.underlying22 rfl (fun X hX=>Pl.Cb.at (j:=2) (Pl.Cb.ex aD hX) rfl) eY rfl rfl rfl rfl rfl ?_
 refine Pl.bC (.pointer (some ⟨N2,0,none⟩)) eY rfl rfl rfl rfl (fun X=>by kernel_rfl) ?_
 refine Pl.bT (part:=[.bool (decide ((Rat.num q)<0)),.slice Ab (limbs (Int.natAbs (Rat.num q))).length cb]) (fun X hX=>Pl.Cb.ex aD hX) rfl Tryz.underlying24 rfl (by kernel_rfl) eY rfl rfl rfl rfl rfl ?_
 refine Pl.bC (.pointer (some ⟨N1,2,none⟩)) eY rfl rfl rfl rfl (fun X=>by kernel_rfl) ?_
 refine Pl.iE (v:=.slice Ba (limbs (Rat.den p)).length ba) Tryz.underlying22 rfl (fun X hX=>Pl.Cb.at (j:=2) (Pl.Cb.ex (Pl.Cb.ex aC hE2) hX) rfl) eY rfl rfl rfl rfl rfl ?_
 refine Pl.ah rfl rfl rfl rfl rfl (fun u X=>Pl.enters Tryz.func84 (by kernel_rfl) rfl u X) ?_
 refine Calls.mono (fF _ _ (Rat.den q) (Un.below tb (Pl.Ex.trans hE1 (Pl.Ex.trans hE2 aO)))) ?_
 rintro e w4 ⟨v3,rfl,hv3,aR⟩
 obtain ⟨A4,c5,rfl,u6⟩:=hv3
 have l9:=Pl.Ex.size aR
 have dP:=Pl.Ex.trans eY aR
 refine ⟨_,rfl,dP,?_⟩
 refine Pl.ah rfl rfl rfl rfl rfl (fun u X=>Pl.enters Tryz.func91 (by kernel_rfl) rfl u X) ?_
 refine Calls.mono (ry _ _ _ (Rat.num p) (((Rat.den q):Nat):Int) (Zn.of (Un.below ua (Pl.Ex.trans hE1 (Pl.Ex.trans hE2 (Pl.Ex.trans aO aR))))) (Zn.of u6) (Sz.le za (by omega)) (Sz.le (Sn.sz yb) (by omega)) _ rfl) ?_
 rintro e w5 ⟨v7,rfl,hv7,aP⟩
 obtain ⟨A8,c9,rfl,rW⟩:=hv7
 have jY:=Pl.Ex.size aP
 have hS5:=Pl.Ex.trans dP aP
 refine ⟨_,rfl,hS5,?_⟩
 refine Pl.ah rfl rfl rfl rfl rfl (fun u X=>Pl.enters Tryz.func84 (by kernel_rfl) rfl u X) ?_
 refine Calls.mono (fF _ _ (Rat.den p) (Un.below ta (Pl.Ex.trans hE1 (Pl.Ex.trans hE2 (Pl.Ex.trans aO (Pl.Ex.trans aR aP)))))) ?_
 rintro e w6 ⟨v11,rfl,kL,aM⟩
 obtain ⟨CK,c13,rfl,JF⟩:=kL
 have jr:=Pl.Ex.size aM
 have bS:=Pl.Ex.trans hS5 aM
 refine ⟨_,rfl,bS,?_⟩
 refine Pl.ah rfl rfl rfl rfl rfl (fun u X=>Pl.enters Tryz.func91 (by kernel_rfl) rfl u X) ?_
 refine Calls.mono (ry _ _ _ (Rat.num q) (((Rat.den p):Nat):Int) (Zn.of (Un.below ub (Pl.Ex.trans hE1 (Pl.Ex.trans hE2 (Pl.Ex.trans aO (Pl.Ex.trans aR (Pl.Ex.trans aP aM))))))) (Zn.of JF) (Sz.le zb (by omega)) (Sz.le (Sn.sz ya) (by omega)) _ rfl) ?_
 rintro e w7 ⟨v15,rfl,Hf,aH⟩
 obtain ⟨A16,c17,rfl,OG⟩:=Hf
 have iU:=Pl.Ex.size aH
 have bE:=Pl.Ex.trans bS aH
 refine ⟨_,rfl,bE,?_⟩
 refine Pl.ah rfl rfl rfl rfl rfl (fun u X=>Pl.enters Tryz.func89 (by kernel_rfl) rfl u X) ?_
 refine Calls.mono (Iz _ _ _ ((Rat.num p)*(((Rat.den q):Nat):Int)) ((Rat.num q)*(((Rat.den p):Nat):Int)) (Zn.of (Un.below rW (Pl.Ex.trans aM aH))) (Zn.of OG) (Sz.le (Sz.mul za (Sn.sz yb) (by omega):Sz ((Rat.num p)*(((Rat.den q):Nat):Int)) (L+M2)) (by omega)) (Sz.le (Sz.mul zb (Sn.sz ya) (by omega):Sz ((Rat.num q)*(((Rat.den p):Nat):Int)) (L2+M)) (by omega)) _ rfl) ?_
 rintro e w8 ⟨rfl,bu⟩
 obtain ⟨k19,Kk⟩:∃ z9,jy ((Rat.num p)*(((Rat.den q):Nat):Int)) ((Rat.num q)*(((Rat.den p):Nat):Int))=z9:=⟨_,rfl⟩
 rw [Kk]
 have Us:=Ce Kk
 have mh:=Pl.Ex.size bu
 have bD:=Pl.Ex.trans bE bu
 refine ⟨_,rfl,bD,?_⟩
 refine Pl.aG bD rfl ?_
 refine Pl.af ?_
 repeat refine Pl.ay ?_
 exact Pl.dU rfl rfl  (⟨k19,rfl,Kj Kk,(Pl.Ex.trans hE1 (Pl.Ex.trans hE2 (Pl.Ex.trans aO (Pl.Ex.trans aR (Pl.Ex.trans aP (Pl.Ex.trans aM (Pl.Ex.trans aH bu)))))))⟩)
theorem Aj (w:World) (va:Value) (p:Rat) (L M:Nat) (ha:Qn w va p L M) (hL:L≤1000000) :
  Calls Tryz.prog 50 #[va] w fun e w'=>∃ k:Int,e = .returned (.int .i64 k)∧M0 p k∧Pl.Ex w w':=by
 obtain ⟨Aa,ca,Ba,ba,rfl,ua,ta,za,ya⟩:=ha
 refine Pl.bL (n:=6) (vs:=[.agg #[.bool (decide ((Rat.num p)<0)),.slice Aa (limbs (Int.natAbs (Rat.num p))).length ca,.slice Ba (limbs (Rat.den p)).length ba]]) Tryz.func50 rfl (by kernel_rfl) (by simp) ?_
 repeat refine Pl.ay ?_
 refine Pl.aB (by kernel_rfl) ?_
 refine Pl.dN (cs:=[.bool (decide ((Rat.num p)<0)),.slice Aa (limbs (Int.natAbs (Rat.num p))).length ca,.slice Ba (limbs (Rat.den p)).length ba]) rfl rfl rfl rfl rfl rfl (fun Y hY=>trivial) ?_
 intro N1 w1 hE1 eP aC
 have ig:=Pl.Cb.lt aC
 have mH:=Pl.Ex.size hE1
 refine Pl.aG trivial rfl ?_
 refine Pl.af ?_
 repeat refine Pl.ay ?_
 refine Pl.aB (by kernel_rfl) ?_
 refine Pl.bC (.pointer (some ⟨N1,0,none⟩)) trivial rfl rfl rfl rfl (fun X=>by kernel_rfl) ?_
 refine Pl.dJ (part:=[.bool (decide ((Rat.num p)<0)),.slice Aa (limbs (Int.natAbs (Rat.num p))).length ca]) aC rfl Tryz.underlying24 rfl (by kernel_rfl) trivial rfl rfl rfl rfl rfl ?_
 refine Pl.ah rfl rfl rfl rfl rfl (fun u X=>Pl.enters Tryz.func52 (by kernel_rfl) rfl u X) ?_
 refine Calls.mono (EC _ _ (Rat.num p) (Zn.of (Un.below ua hE1)) ((Sz.le za (by omega))) _ rfl) ?_
 rintro e w2 ⟨rfl,hE2⟩
 obtain ⟨k2,QC⟩:∃ z9,Int.sign (Rat.num p)=z9:=⟨_,rfl⟩
 rw [QC]
 have gk2:=yx QC
 have mY:=Pl.Ex.size hE2
 refine ⟨_,rfl,trivial,?_⟩
 refine Pl.aG trivial rfl ?_
 refine Pl.af ?_
 repeat refine Pl.ay ?_
 exact Pl.dU rfl rfl  (⟨k2,rfl,QB QC,(Pl.Ex.trans hE1 hE2)⟩)
theorem xK (w:World) (va:Value) (p:Rat) (L M:Nat) (ha:Qn w va p L M) (hL:L≤1000000) :
  Calls Tryz.prog 54 #[va] w fun e w'=>∃ u,e = .returned u∧Qn w' u (-p) L M∧Pl.Ex w w':=by
 obtain ⟨Aa,ca,Ba,ba,rfl,ua,ta,za,ya⟩:=ha
 refine Pl.bL (n:=9) (vs:=[.agg #[.bool (decide ((Rat.num p)<0)),.slice Aa (limbs (Int.natAbs (Rat.num p))).length ca,.slice Ba (limbs (Rat.den p)).length ba]]) Tryz.func54 rfl (by kernel_rfl) (by simp) ?_
 repeat refine Pl.ay ?_
 refine Pl.aB (by kernel_rfl) ?_
 refine Pl.dN (cs:=[.bool (decide ((Rat.num p)<0)),.slice Aa (limbs (Int.natAbs (Rat.num p))).length ca,.slice Ba (limbs (Rat.den p)).length ba]) rfl rfl rfl rfl rfl rfl (fun Y hY=>trivial) ?_
 intro N1 w1 hE1 eP aC
 have ig:=Pl.Cb.lt aC
 have mH:=Pl.Ex.size hE1
 refine Pl.aU (z:=.agg #[.bool false,.slice none 0 0,.slice none 0 0]) (by kernel_rfl) rfl rfl rfl rfl (fun Y hY=>trivial) ?_
 intro N2 w2 hE2 gD aD
 have iB:=Pl.Cb.lt aD
 have mY:=Pl.Ex.size hE2
 replace aD:Pl.Cb w2 N2 41 [.bool false,.slice none 0 0,.slice none 0 0]:=aD
 refine Pl.af ?_
 repeat refine Pl.ay ?_
 refine Pl.fJ (S:=fun X=>Pl.Ex w1 X) [(true,0,0),(true,1,1),(true,3,3),(true,4,11),(false,2,27),(true,5,31),(false,6,63)] fo Pl.az (by kernel_rfl) (Pl.Ex.trans hE2 (Pl.Ex.drew _)) ?_
 have aO:=Pl.Ex.drew w2
 generalize w2.drew=w3 at *
 have mZ:=Pl.Ex.size aO
 intro eY
 refine Pl.bC (.pointer (some ⟨N1,0,none⟩)) eY rfl rfl rfl rfl (fun X=>by kernel_rfl) ?_
 refine Pl.bT (part:=[.bool (decide ((Rat.num p)<0)),.slice Aa (limbs (Int.natAbs (Rat.num p))).length ca]) (fun X hX=>Pl.Cb.ex aC hX) rfl Tryz.underlying24 rfl (by kernel_rfl) eY rfl rfl rfl rfl rfl ?_
 refine Pl.bC (.pointer (some ⟨N1,2,none⟩)) eY rfl rfl rfl rfl (fun X=>by kernel_rfl) ?_
 refine Pl.iE (v:=.slice Ba (limbs (Rat.den p)).length ba) Tryz.underlying22 rfl (fun X hX=>Pl.Cb.at (j:=2) (Pl.Cb.ex aC hX) rfl) eY rfl rfl rfl rfl rfl ?_
 refine Pl.ah rfl rfl rfl rfl rfl (fun u X=>Pl.enters Tryz.func72 (by kernel_rfl) rfl u X) ?_
 refine Calls.mono (Mk _ _ (Rat.num p) (Zn.of (Un.below ua (Pl.Ex.trans hE1 (Pl.Ex.trans hE2 aO)))) (Sz.le za (by omega)) _ rfl) ?_
 rintro e w4 ⟨v3,rfl,hv3,aR⟩
 obtain ⟨A4,c5,rfl,u6⟩:=hv3
 have l9:=Pl.Ex.size aR
 have dP:=Pl.Ex.trans eY aR
 refine ⟨_,rfl,dP,?_⟩
 refine Pl.bC (.agg #[.bool (decide ((-(Rat.num p))<0)),.slice A4 (limbs (Int.natAbs (-(Rat.num p)))).length c5,.slice Ba (limbs (Rat.den p)).length ba]) dP rfl rfl rfl rfl (fun X=>by kernel_rfl) ?_
 refine Pl.bg (new:=[.bool (decide ((-(Rat.num p))<0)),.slice A4 (limbs (Int.natAbs (-(Rat.num p)))).length c5,.slice Ba (limbs (Rat.den p)).length ba]) (Pl.Cb.ex aD (Pl.Ex.trans aO aR)) (by kernel_rfl) rfl (by simp [Value.oneCell']) rfl rfl rfl rfl rfl rfl (fun Y hY=>Pl.Ex.xs dP hY (by omega)) ?_
 intro w5 kF dG
 have aP:=Pl.Ex.xs (Pl.Ex.trans hE2 (Pl.Ex.trans aO aR)) kF (by omega)
 have jY:=Pl.Xs.size kF
 have hS5:=Pl.Ex.xs dP kF (by omega)
 refine Pl.af ?_
 have k7:=Un.xs u6 kF (Pl.Cb.ex aD (Pl.Ex.trans aO aR)) (by simp)
 repeat refine Pl.ay ?_
 exact Pl.cO rfl rfl dG Tryz.underlying41 rfl (by kernel_rfl) (⟨_,rfl,Qn.of (q := -p) rfl rfl k7 (Un.below ta (Pl.Ex.trans hE1 aP)) (Sz.neg za) ya,(Pl.Ex.trans hE1 aP)⟩)
theorem uE (w:World) (va vb:Value) (p q:Rat) (L M L2 M2:Nat) (ha:Qn w va p L M) (hb:Qn w vb q L2 M2) (K N:Nat) (h1:L+M2+1≤K) (h2:L2+M+1≤K) (h3:M+M2≤N) (hK:K≤100) (hN:N≤100) :
  Calls Tryz.prog 46 #[va,vb] w fun e w'=>∃ u,e = .returned u∧Qn w' u (p+q) K N∧Pl.Ex w w':=by
 obtain ⟨Aa,ca,Ba,ba,rfl,ua,ta,za,ya⟩:=ha
 obtain ⟨Ab,cb,Bb,bb,rfl,ub,tb,zb,yb⟩:=hb
 refine Pl.bL (n:=26) (vs:=[.agg #[.bool (decide ((Rat.num p)<0)),.slice Aa (limbs (Int.natAbs (Rat.num p))).length ca,.slice Ba (limbs (Rat.den p)).length ba],.agg #[.bool (decide ((Rat.num q)<0)),.slice Ab (limbs (Int.natAbs (Rat.num q))).length cb,.slice Bb (limbs (Rat.den q)).length bb]]) Tryz.func46 rfl (by kernel_rfl) (by simp) ?_
 repeat refine Pl.ay ?_
 refine Pl.aB (by kernel_rfl) ?_
 refine Pl.dN (cs:=[.bool (decide ((Rat.num p)<0)),.slice Aa (limbs (Int.natAbs (Rat.num p))).length ca,.slice Ba (limbs (Rat.den p)).length ba]) rfl rfl rfl rfl rfl rfl (fun Y hY=>trivial) ?_
 intro N1 w1 hE1 eP aC
 have ig:=Pl.Cb.lt aC
 have mH:=Pl.Ex.size hE1
 refine Pl.dN (cs:=[.bool (decide ((Rat.num q)<0)),.slice Ab (limbs (Int.natAbs (Rat.num q))).length cb,.slice Bb (limbs (Rat.den q)).length bb]) rfl rfl rfl rfl rfl rfl (fun Y hY=>trivial) ?_
 intro N2 w2 hE2 gD aD
 have iB:=Pl.Cb.lt aD
 have mY:=Pl.Ex.size hE2
 refine Pl.aU (z:=.agg #[.bool false,.slice none 0 0,.slice none 0 0]) (by kernel_rfl) rfl rfl rfl rfl (fun Y hY=>trivial) ?_
 intro N3 w3 aO jP aL
 have iJ:=Pl.Cb.lt aL
 have mZ:=Pl.Ex.size aO
 replace aL:Pl.Cb w3 N3 41 [.bool false,.slice none 0 0,.slice none 0 0]:=aL
 refine Pl.af ?_
 repeat refine Pl.ay ?_
 refine Pl.fJ (S:=fun X=>Pl.Ex w2 X) [(true,0,0),(true,1,1),(true,2,3),(true,3,7),(true,6,15),(true,7,79),(true,8,207),(true,9,463),(true,13,975),(true,14,9167),(true,16,25551),(true,17,91087),(false,4,222159),(false,5,222175),(false,10,222207),(false,11,223231),(false,12,225279),(false,15,229375),(false,18,262143),(false,19,524287),(false,20,1048575),(false,21,2097151)] fo Pl.az (by kernel_rfl) (Pl.Ex.trans aO (Pl.Ex.drew _)) ?_
 have aR:=Pl.Ex.drew w3
 generalize w3.drew=w4 at *
 have l9:=Pl.Ex.size aR
 intro dP
 refine Pl.bC (.pointer (some ⟨N1,0,none⟩)) dP rfl rfl rfl rfl (fun X=>by kernel_rfl) ?_
 refine Pl.bT (part:=[.bool (decide ((Rat.num p)<0)),.slice Aa (limbs (Int.natAbs (Rat.num p))).length ca]) (fun X hX=>Pl.Cb.ex (Pl.Cb.ex aC hE2) hX) rfl Tryz.underlying24 rfl (by kernel_rfl) dP rfl rfl rfl rfl rfl ?_
 refine Pl.bC (.pointer (some ⟨N2,2,none⟩)) dP rfl rfl rfl rfl (fun X=>by kernel_rfl) ?_
 refine Pl.iE (v:=.slice Bb (limbs (Rat.den q)).length bb) Tryz.underlying22 rfl (fun X hX=>Pl.Cb.at (j:=2) (Pl.Cb.ex aD hX) rfl) dP rfl rfl rfl rfl rfl ?_
 refine Pl.bC (.pointer (some ⟨N2,0,none⟩)) dP rfl rfl rfl rfl (fun X=>by kernel_rfl) ?_
 refine Pl.bT (part:=[.bool (decide ((Rat.num q)<0)),.slice Ab (limbs (Int.natAbs (Rat.num q))).length cb]) (fun X hX=>Pl.Cb.ex aD hX) rfl Tryz.underlying24 rfl (by kernel_rfl) dP rfl rfl rfl rfl rfl ?_
 refine Pl.bC (.pointer (some ⟨N1,2,none⟩)) dP rfl rfl rfl rfl (fun X=>by kernel_rfl) ?_
 refine Pl.iE (v:=.slice Ba (limbs (Rat.den p)).length ba) Tryz.underlying22 rfl (fun X hX=>Pl.Cb.at (j:=2) (Pl.Cb.ex (Pl.Cb.ex aC hE2) hX) rfl) dP rfl rfl rfl rfl rfl ?_
 refine Pl.bC (.pointer (some ⟨N1,2,none⟩)) dP rfl rfl rfl rfl (fun X=>by kernel_rfl) ?_
 refine Pl.iE (v:=.slice Ba (limbs (Rat.den p)).length ba) Tryz.underlying22 rfl (fun X hX=>Pl.Cb.at (j:=2) (Pl.Cb.ex (Pl.Cb.ex aC hE2) hX) rfl) dP rfl rfl rfl rfl rfl ?_
 refine Pl.bC (.pointer (some ⟨N2,2,none⟩)) dP rfl rfl rfl rfl (fun X=>by kernel_rfl) ?_
 refine Pl.iE (v:=.slice Bb (limbs (Rat.den q)).length bb) Tryz.underlying22 rfl (fun X hX=>Pl.Cb.at (j:=2) (Pl.Cb.ex aD hX) rfl) dP rfl rfl rfl rfl rfl ?_
 refine Pl.ah rfl rfl rfl rfl rfl (fun u X=>Pl.enters Tryz.func84 (by kernel_rfl) rfl u X) ?_
 refine Calls.mono (fF _ _ (Rat.den q) (Un.below tb (Pl.Ex.trans hE1 (Pl.Ex.trans hE2 (Pl.Ex.trans aO aR))))) ?_
 rintro e w5 ⟨v4,rfl,hv4,aP⟩
 obtain ⟨A5,c6,rfl,u7⟩:=hv4
 have jY:=Pl.Ex.size aP
 have hS5:=Pl.Ex.trans dP aP
 refine ⟨_,rfl,hS5,?_⟩
 refine Pl.ah rfl rfl rfl rfl rfl (fun u X=>Pl.enters Tryz.func91 (by kernel_rfl) rfl u X) ?_
 refine Calls.mono (ry _ _ _ (Rat.num p) (((Rat.den q):Nat):Int) (Zn.of (Un.below ua (Pl.Ex.trans hE1 (Pl.Ex.trans hE2 (Pl.Ex.trans aO (Pl.Ex.trans aR aP)))))) (Zn.of u7) (Sz.le za (by omega)) (Sz.le (Sn.sz yb) (by omega)) _ rfl) ?_
 rintro e w6 ⟨v8,rfl,EG,aM⟩
 obtain ⟨A9,c10,rfl,tY⟩:=EG
 have jr:=Pl.Ex.size aM
 have bS:=Pl.Ex.trans hS5 aM
 refine ⟨_,rfl,bS,?_⟩
 refine Pl.ah rfl rfl rfl rfl rfl (fun u X=>Pl.enters Tryz.func84 (by kernel_rfl) rfl u X) ?_
 refine Calls.mono (fF _ _ (Rat.den p) (Un.below ta (Pl.Ex.trans hE1 (Pl.Ex.trans hE2 (Pl.Ex.trans aO (Pl.Ex.trans aR (Pl.Ex.trans aP aM))))))) ?_
 rintro e w7 ⟨v12,rfl,nV,aH⟩
 obtain ⟨Et,c14,rfl,Ff⟩:=nV
 have iU:=Pl.Ex.size aH
 have bE:=Pl.Ex.trans bS aH
 refine ⟨_,rfl,bE,?_⟩
 refine Pl.ah rfl rfl rfl rfl rfl (fun u X=>Pl.enters Tryz.func91 (by kernel_rfl) rfl u X) ?_
 refine Calls.mono (ry _ _ _ (Rat.num q) (((Rat.den p):Nat):Int) (Zn.of (Un.below ub (Pl.Ex.trans hE1 (Pl.Ex.trans hE2 (Pl.Ex.trans aO (Pl.Ex.trans aR (Pl.Ex.trans aP (Pl.Ex.trans aM aH)))))))) (Zn.of Ff) (Sz.le zb (by omega)) (Sz.le (Sn.sz ya) (by omega)) _ rfl) ?_
 rintro e w8 ⟨v16,rfl,EH,bu⟩
 obtain ⟨G5,c18,rfl,Fe⟩:=EH
 have mh:=Pl.Ex.size bu
 have bD:=Pl.Ex.trans bE bu
 refine ⟨_,rfl,bD,?_⟩
 refine Pl.ah rfl rfl rfl rfl rfl (fun u X=>Pl.enters Tryz.func55 (by kernel_rfl) rfl u X) ?_
 refine Calls.mono (IC _ _ _ ((Rat.num p)*(((Rat.den q):Nat):Int)) ((Rat.num q)*(((Rat.den p):Nat):Int)) (Zn.of (Un.below tY (Pl.Ex.trans aH bu))) (Zn.of Fe) (Sz.le (Sz.mul za (Sn.sz yb) (by omega):Sz ((Rat.num p)*(((Rat.den q):Nat):Int)) (L+M2)) (by omega)) (Sz.le (Sz.mul zb (Sn.sz ya) (by omega):Sz ((Rat.num q)*(((Rat.den p):Nat):Int)) (L2+M)) (by omega)) _ rfl) ?_
 rintro e w9 ⟨v20,rfl,ve,dh⟩
 obtain ⟨Dg,Dh,rfl,u23⟩:=ve
 have pG:=Pl.Ex.size dh
 have bK:=Pl.Ex.trans bD dh
 refine ⟨_,rfl,bK,?_⟩
 refine Pl.ah rfl rfl rfl rfl rfl (fun u X=>Pl.enters Tryz.func84 (by kernel_rfl) rfl u X) ?_
 refine Calls.mono (fF _ _ (Rat.den p) (Un.below ta (Pl.Ex.trans hE1 (Pl.Ex.trans hE2 (Pl.Ex.trans aO (Pl.Ex.trans aR (Pl.Ex.trans aP (Pl.Ex.trans aM (Pl.Ex.trans aH (Pl.Ex.trans bu dh)))))))))) ?_
 rintro e qD ⟨v24,rfl,hv24,bf⟩
 obtain ⟨VR,VS,rfl,u27⟩:=hv24
 have mD:=Pl.Ex.size bf
 have gK:=Pl.Ex.trans bK bf
 refine ⟨_,rfl,gK,?_⟩
 refine Pl.ah rfl rfl rfl rfl rfl (fun u X=>Pl.enters Tryz.func84 (by kernel_rfl) rfl u X) ?_
 refine Calls.mono (fF _ _ (Rat.den q) (Un.below tb (Pl.Ex.trans hE1 (Pl.Ex.trans hE2 (Pl.Ex.trans aO (Pl.Ex.trans aR (Pl.Ex.trans aP (Pl.Ex.trans aM (Pl.Ex.trans aH (Pl.Ex.trans bu (Pl.Ex.trans dh bf))))))))))) ?_
 rintro e uV ⟨v28,rfl,hv28,bI⟩
 obtain ⟨A29,c30,rfl,u31⟩:=hv28
 have qx:=Pl.Ex.size bI
 have iT:=Pl.Ex.trans gK bI
 refine ⟨_,rfl,iT,?_⟩
 refine Pl.ah rfl rfl rfl rfl rfl (fun u X=>Pl.enters Tryz.func91 (by kernel_rfl) rfl u X) ?_
 refine Calls.mono (ry _ _ _ (((Rat.den p):Nat):Int) (((Rat.den q):Nat):Int) (Zn.of (Un.below u27 bI)) (Zn.of u31) (Sz.le (Sn.sz ya) (by omega)) (Sz.le (Sn.sz yb) (by omega)) _ rfl) ?_
 rintro e yu ⟨v32,rfl,hv32,bY⟩
 obtain ⟨Y6,c34,rfl,u35⟩:=hv32
 have qQ:=Pl.Ex.size bY
 have jl:=Pl.Ex.trans iT bY
 refine ⟨_,rfl,jl,?_⟩
 refine Pl.ah rfl rfl rfl rfl rfl (fun u X=>Pl.enters Tryz.func83 (by kernel_rfl) rfl u X) ?_
 refine Calls.mono (mE _ _ _ (((Rat.num p)*(((Rat.den q):Nat):Int))+((Rat.num q)*(((Rat.den p):Nat):Int))) ((((Rat.den p):Nat):Int)*(((Rat.den q):Nat):Int)) (p+q) (Zn.of (Un.below u23 (Pl.Ex.trans bf (Pl.Ex.trans bI bY)))) (Zn.of u35) (max (L+M2) (L2+M)+1) (M+M2) (Sz.add (Sz.mul za (Sn.sz yb) (by omega):Sz ((Rat.num p)*(((Rat.den q):Nat):Int)) (L+M2)) (Sz.mul zb (Sn.sz ya) (by omega):Sz ((Rat.num q)*(((Rat.den p):Nat):Int)) (L2+M)) (by omega) (by omega):Sz (((Rat.num p)*(((Rat.den q):Nat):Int))+((Rat.num q)*(((Rat.den p):Nat):Int))) (max (L+M2) (L2+M)+1)) (Sz.mul (Sn.sz ya) (Sn.sz yb) (by omega):Sz ((((Rat.den p):Nat):Int)*(((Rat.den q):Nat):Int)) (M+M2)) (by omega) (by omega) (Int.mul_ne_zero (show ((p.den:Nat):Int)≠0 by have:=p.den_pos;omega) (show ((q.den:Nat):Int)≠0 by have:=q.den_pos;omega)) (by rw [← Int.natCast_mul];exact Rq.Ke p q)) ?_
 rintro e yM ⟨v36,rfl,M5,bM⟩
 obtain ⟨A37,c38,A39,c40,rfl,u41,u42,QD,QE⟩:=M5
 have rE:=Pl.Ex.size bM
 have lV:=Pl.Ex.trans jl bM
 refine ⟨_,rfl,lV,?_⟩
 refine Pl.bg (new:=[.bool (decide ((Rat.num (p+q))<0)),.slice A37 (limbs (Int.natAbs (Rat.num (p+q)))).length c38,.slice A39 (limbs (Rat.den (p+q))).length c40]) (Pl.Cb.ex aL (Pl.Ex.trans aR (Pl.Ex.trans aP (Pl.Ex.trans aM (Pl.Ex.trans aH (Pl.Ex.trans bu (Pl.Ex.trans dh (Pl.Ex.trans bf (Pl.Ex.trans bI (Pl.Ex.trans bY bM)))))))))) (by kernel_rfl) rfl (by simp [Value.oneCell']) rfl rfl rfl rfl rfl rfl (fun Y hY=>Pl.Ex.xs lV hY (by omega)) ?_
 intro FV vG dX
 have ed:=Pl.Ex.xs (Pl.Ex.trans aO (Pl.Ex.trans aR (Pl.Ex.trans aP (Pl.Ex.trans aM (Pl.Ex.trans aH (Pl.Ex.trans bu (Pl.Ex.trans dh (Pl.Ex.trans bf (Pl.Ex.trans bI (Pl.Ex.trans bY bM)))))))))) vG (by omega)
 have zK:=Pl.Xs.size vG
 have nU:=Pl.Ex.xs lV vG (by omega)
 refine Pl.af ?_
 have Z5:=Un.xs u41 vG (Pl.Cb.ex aL (Pl.Ex.trans aR (Pl.Ex.trans aP (Pl.Ex.trans aM (Pl.Ex.trans aH (Pl.Ex.trans bu (Pl.Ex.trans dh (Pl.Ex.trans bf (Pl.Ex.trans bI (Pl.Ex.trans bY bM)))))))))) (by simp)
 have Z6:=Un.xs u42 vG (Pl.Cb.ex aL (Pl.Ex.trans aR (Pl.Ex.trans aP (Pl.Ex.trans aM (Pl.Ex.trans aH (Pl.Ex.trans bu (Pl.Ex.trans dh (Pl.Ex.trans bf (Pl.Ex.trans bI (Pl.Ex.trans bY bM)))))))))) (by simp)
 repeat refine Pl.ay ?_
 exact Pl.cO rfl rfl dX Tryz.underlying41 rfl (by kernel_rfl) (⟨_,rfl,(Qn.le (Qn.mk Z5 Z6 QD QE) (by omega) (by omega)),(Pl.Ex.trans hE1 (Pl.Ex.trans hE2 ed))⟩)
theorem og (w:World) (va vb:Value) (p q:Rat) (L M L2 M2:Nat) (ha:Qn w va p L M) (hb:Qn w vb q L2 M2) (K N:Nat) (h1:L+L2≤K) (h3:M+M2≤N) (hK:K≤100) (hN:N≤100) :
  Calls Tryz.prog 48 #[va,vb] w fun e w'=>∃ u,e = .returned u∧Qn w' u (p*q) K N∧Pl.Ex w w':=by
 obtain ⟨Aa,ca,Ba,ba,rfl,ua,ta,za,ya⟩:=ha
 obtain ⟨Ab,cb,Bb,bb,rfl,ub,tb,zb,yb⟩:=hb
 refine Pl.bL (n:=18) (vs:=[.agg #[.bool (decide ((Rat.num p)<0)),.slice Aa (limbs (Int.natAbs (Rat.num p))).length ca,.slice Ba (limbs (Rat.den p)).length ba],.agg #[.bool (decide ((Rat.num q)<0)),.slice Ab (limbs (Int.natAbs (Rat.num q))).length cb,.slice Bb (limbs (Rat.den q)).length bb]]) Tryz.func48 rfl (by kernel_rfl) (by simp) ?_
 repeat refine Pl.ay ?_
 refine Pl.aB (by kernel_rfl) ?_
 refine Pl.dN (cs:=[.bool (decide ((Rat.num p)<0)),.slice Aa (limbs (Int.natAbs (Rat.num p))).length ca,.slice Ba (limbs (Rat.den p)).length ba]) rfl rfl rfl rfl rfl rfl (fun Y hY=>trivial) ?_
 intro N1 w1 hE1 eP aC
 have ig:=Pl.Cb.lt aC
 have mH:=Pl.Ex.size hE1
 refine Pl.dN (cs:=[.bool (decide ((Rat.num q)<0)),.slice Ab (limbs (Int.natAbs (Rat.num q))).length cb,.slice Bb (limbs (Rat.den q)).length bb]) rfl rfl rfl rfl rfl rfl (fun Y hY=>trivial) ?_
 intro N2 w2 hE2 gD aD
 have iB:=Pl.Cb.lt aD
 have mY:=Pl.Ex.size hE2
 refine Pl.aU (z:=.agg #[.bool false,.slice none 0 0,.slice none 0 0]) (by kernel_rfl) rfl rfl rfl rfl (fun Y hY=>trivial) ?_
 intro N3 w3 aO jP aL
 have iJ:=Pl.Cb.lt aL
 have mZ:=Pl.Ex.size aO
 replace aL:Pl.Cb w3 N3 41 [.bool false,.slice none 0 0,.slice none 0 0]:=aL
 refine Pl.af ?_
 repeat refine Pl.ay ?_
 refine Pl.fJ (S:=fun X=>Pl.Ex w2 X) [(true,0,0),(true,1,1),(true,2,3),(true,3,7),(true,5,15),(true,6,47),(true,8,111),(true,9,367),(false,4,879),(false,7,895),(false,10,1023),(false,11,2047),(false,12,4095),(false,13,8191)] fo Pl.az (by kernel_rfl) (Pl.Ex.trans aO (Pl.Ex.drew _)) ?_
 have aR:=Pl.Ex.drew w3
 generalize w3.drew=w4 at *
 have l9:=Pl.Ex.size aR
 intro dP
 refine Pl.bC (.pointer (some ⟨N1,0,none⟩)) dP rfl rfl rfl rfl (fun X=>by kernel_rfl) ?_
 refine Pl.bT (part:=[.bool (decide ((Rat.num p)<0)),.slice Aa (limbs (Int.natAbs (Rat.num p))).length ca]) (fun X hX=>Pl.Cb.ex (Pl.Cb.ex aC hE2) hX) rfl Tryz.underlying24 rfl (by kernel_rfl) dP rfl rfl rfl rfl rfl ?_
 refine Pl.bC (.pointer (some ⟨N2,0,none⟩)) dP rfl rfl rfl rfl (fun X=>by kernel_rfl) ?_
 refine Pl.bT (part:=[.bool (decide ((Rat.num q)<0)),.slice Ab (limbs (Int.natAbs (Rat.num q))).length cb]) (fun X hX=>Pl.Cb.ex aD hX) rfl Tryz.underlying24 rfl (by kernel_rfl) dP rfl rfl rfl rfl rfl ?_
 refine Pl.bC (.pointer (some ⟨N1,2,none⟩)) dP rfl rfl rfl rfl (fun X=>by kernel_rfl) ?_
 refine Pl.iE (v:=.slice Ba (limbs (Rat.den p)).length ba) Tryz.underlying22 rfl (fun X hX=>Pl.Cb.at (j:=2) (Pl.Cb.ex (Pl.Cb.ex aC hE2) hX) rfl) dP rfl rfl rfl rfl rfl ?_
 refine Pl.bC (.pointer (some ⟨N2,2,none⟩)) dP rfl rfl rfl rfl (fun X=>by kernel_rfl) ?_
 refine Pl.iE (v:=.slice Bb (limbs (Rat.den q)).length bb) Tryz.underlying22 rfl (fun X hX=>Pl.Cb.at (j:=2) (Pl.Cb.ex aD hX) rfl) dP rfl rfl rfl rfl rfl ?_
 refine Pl.ah rfl rfl rfl rfl rfl (fun u X=>Pl.enters Tryz.func91 (by kernel_rfl) rfl u X) ?_
 refine Calls.mono (ry _ _ _ (Rat.num p) (Rat.num q) (Zn.of (Un.below ua (Pl.Ex.trans hE1 (Pl.Ex.trans hE2 (Pl.Ex.trans aO aR))))) (Zn.of (Un.below ub (Pl.Ex.trans hE1 (Pl.Ex.trans hE2 (Pl.Ex.trans aO aR))))) (Sz.le za (by omega)) (Sz.le zb (by omega)) _ rfl) ?_
 rintro e w5 ⟨v4,rfl,hv4,aP⟩
 obtain ⟨A5,c6,rfl,u7⟩:=hv4
 have jY:=Pl.Ex.size aP
 have hS5:=Pl.Ex.trans dP aP
 refine ⟨_,rfl,hS5,?_⟩
 refine Pl.ah rfl rfl rfl rfl rfl (fun u X=>Pl.enters Tryz.func84 (by kernel_rfl) rfl u X) ?_
 refine Calls.mono (fF _ _ (Rat.den p) (Un.below ta (Pl.Ex.trans hE1 (Pl.Ex.trans hE2 (Pl.Ex.trans aO (Pl.Ex.trans aR aP)))))) ?_
 rintro e w6 ⟨v8,rfl,EG,aM⟩
 obtain ⟨A9,c10,rfl,tY⟩:=EG
 have jr:=Pl.Ex.size aM
 have bS:=Pl.Ex.trans hS5 aM
 refine ⟨_,rfl,bS,?_⟩
 refine Pl.ah rfl rfl rfl rfl rfl (fun u X=>Pl.enters Tryz.func84 (by kernel_rfl) rfl u X) ?_
 refine Calls.mono (fF _ _ (Rat.den q) (Un.below tb (Pl.Ex.trans hE1 (Pl.Ex.trans hE2 (Pl.Ex.trans aO (Pl.Ex.trans aR (Pl.Ex.trans aP aM))))))) ?_
 rintro e w7 ⟨v12,rfl,nV,aH⟩
 obtain ⟨Et,c14,rfl,Ff⟩:=nV
 have iU:=Pl.Ex.size aH
 have bE:=Pl.Ex.trans bS aH
 refine ⟨_,rfl,bE,?_⟩
 refine Pl.ah rfl rfl rfl rfl rfl (fun u X=>Pl.enters Tryz.func91 (by kernel_rfl) rfl u X) ?_
 refine Calls.mono (ry _ _ _ (((Rat.den p):Nat):Int) (((Rat.den q):Nat):Int) (Zn.of (Un.below tY aH)) (Zn.of Ff) (Sz.le (Sn.sz ya) (by omega)) (Sz.le (Sn.sz yb) (by omega)) _ rfl) ?_
 rintro e w8 ⟨v16,rfl,EH,bu⟩
 obtain ⟨G5,c18,rfl,Fe⟩:=EH
 have mh:=Pl.Ex.size bu
 have bD:=Pl.Ex.trans bE bu
 refine ⟨_,rfl,bD,?_⟩
 refine Pl.ah rfl rfl rfl rfl rfl (fun u X=>Pl.enters Tryz.func83 (by kernel_rfl) rfl u X) ?_
 refine Calls.mono (mE _ _ _ ((Rat.num p)*(Rat.num q)) ((((Rat.den p):Nat):Int)*(((Rat.den q):Nat):Int)) (p*q) (Zn.of (Un.below u7 (Pl.Ex.trans aM (Pl.Ex.trans aH bu)))) (Zn.of Fe) (L+L2) (M+M2) (Sz.mul za zb (by omega):Sz ((Rat.num p)*(Rat.num q)) (L+L2)) (Sz.mul (Sn.sz ya) (Sn.sz yb) (by omega):Sz ((((Rat.den p):Nat):Int)*(((Rat.den q):Nat):Int)) (M+M2)) (by omega) (by omega) (Int.mul_ne_zero (show ((p.den:Nat):Int)≠0 by have:=p.den_pos;omega) (show ((q.den:Nat):Int)≠0 by have:=q.den_pos;omega)) (by rw [← Int.natCast_mul];exact Rq.Cc p q)) ?_
 rintro e w9 ⟨v20,rfl,ve,dh⟩
 obtain ⟨Dg,Dh,GZ,c24,rfl,u25,u26,Di,Dj⟩:=ve
 have pG:=Pl.Ex.size dh
 have bK:=Pl.Ex.trans bD dh
 refine ⟨_,rfl,bK,?_⟩
 refine Pl.bg (new:=[.bool (decide ((Rat.num (p*q))<0)),.slice Dg (limbs (Int.natAbs (Rat.num (p*q)))).length Dh,.slice GZ (limbs (Rat.den (p*q))).length c24]) (Pl.Cb.ex aL (Pl.Ex.trans aR (Pl.Ex.trans aP (Pl.Ex.trans aM (Pl.Ex.trans aH (Pl.Ex.trans bu dh)))))) (by kernel_rfl) rfl (by simp [Value.oneCell']) rfl rfl rfl rfl rfl rfl (fun Y hY=>Pl.Ex.xs bK hY (by omega)) ?_
 intro qD eU dX
 have bf:=Pl.Ex.xs (Pl.Ex.trans aO (Pl.Ex.trans aR (Pl.Ex.trans aP (Pl.Ex.trans aM (Pl.Ex.trans aH (Pl.Ex.trans bu dh)))))) eU (by omega)
 have mD:=Pl.Xs.size eU
 have gK:=Pl.Ex.xs bK eU (by omega)
 refine Pl.af ?_
 have k28:=Un.xs u25 eU (Pl.Cb.ex aL (Pl.Ex.trans aR (Pl.Ex.trans aP (Pl.Ex.trans aM (Pl.Ex.trans aH (Pl.Ex.trans bu dh)))))) (by simp)
 have Tz:=Un.xs u26 eU (Pl.Cb.ex aL (Pl.Ex.trans aR (Pl.Ex.trans aP (Pl.Ex.trans aM (Pl.Ex.trans aH (Pl.Ex.trans bu dh)))))) (by simp)
 repeat refine Pl.ay ?_
 exact Pl.cO rfl rfl dX Tryz.underlying41 rfl (by kernel_rfl) (⟨_,rfl,(Qn.le (Qn.mk k28 Tz Di Dj) (by omega) (by omega)),(Pl.Ex.trans hE1 (Pl.Ex.trans hE2 bf))⟩)
theorem mF (w:World) (va vb:Value) (p q:Rat) (L M L2 M2:Nat) (ha:Qn w va p L M) (hb:Qn w vb q L2 M2) (K N:Nat) (h1:L+M2+1≤K) (h2:L2+M+1≤K) (h3:M+M2≤N) (hK:K≤100) (hN:N≤100) :
  Calls Tryz.prog 47 #[va,vb] w fun e w'=>∃ u,e = .returned u∧Qn w' u (p-q) K N∧Pl.Ex w w':=by
 obtain ⟨Aa,ca,Ba,ba,rfl,ua,ta,za,ya⟩:=ha
 obtain ⟨Ab,cb,Bb,bb,rfl,ub,tb,zb,yb⟩:=hb
 refine Pl.bL (n:=9) (vs:=[.agg #[.bool (decide ((Rat.num p)<0)),.slice Aa (limbs (Int.natAbs (Rat.num p))).length ca,.slice Ba (limbs (Rat.den p)).length ba],.agg #[.bool (decide ((Rat.num q)<0)),.slice Ab (limbs (Int.natAbs (Rat.num q))).length cb,.slice Bb (limbs (Rat.den q)).length bb]]) Tryz.func47 rfl (by kernel_rfl) (by simp) ?_
 repeat refine Pl.ay ?_
 refine Pl.aB (by kernel_rfl) ?_
 refine Pl.dN (cs:=[.bool (decide ((Rat.num p)<0)),.slice Aa (limbs (Int.natAbs (Rat.num p))).length ca,.slice Ba (limbs (Rat.den p)).length ba]) rfl rfl rfl rfl rfl rfl (fun Y hY=>trivial) ?_
 intro N1 w1 hE1 eP aC
 have ig:=Pl.Cb.lt aC
 have mH:=Pl.Ex.size hE1
 refine Pl.dN (cs:=[.bool (decide ((Rat.num q)<0)),.slice Ab (limbs (Int.natAbs (Rat.num q))).length cb,.slice Bb (limbs (Rat.den q)).length bb]) rfl rfl rfl rfl rfl rfl (fun Y hY=>trivial) ?_
 intro N2 w2 hE2 gD aD
 have iB:=Pl.Cb.lt aD
 have mY:=Pl.Ex.size hE2
 refine Pl.aU (z:=.agg #[.bool false,.slice none 0 0,.slice none 0 0]) (by kernel_rfl) rfl rfl rfl rfl (fun Y hY=>trivial) ?_
 intro N3 w3 aO jP aL
 have iJ:=Pl.Cb.lt aL
 have mZ:=Pl.Ex.size aO
 replace aL:Pl.Cb w3 N3 41 [.bool false,.slice none 0 0,.slice none 0 0]:=aL
 refine Pl.af ?_
 repeat refine Pl.ay ?_
 refine Pl.fJ (S:=fun X=>Pl.Ex w2 X) [(true,0,0),(true,1,1),(false,2,3),(false,3,7),(false,4,15)] fo Pl.az (by kernel_rfl) (Pl.Ex.trans aO (Pl.Ex.drew _)) ?_
 have aR:=Pl.Ex.drew w3
 generalize w3.drew=w4 at *
 have l9:=Pl.Ex.size aR
 intro dP
 refine Pl.bT (part:=[.bool (decide ((Rat.num p)<0)),.slice Aa (limbs (Int.natAbs (Rat.num p))).length ca,.slice Ba (limbs (Rat.den p)).length ba]) (fun X hX=>Pl.Cb.ex (Pl.Cb.ex aC hE2) hX) rfl Tryz.underlying41 rfl (by kernel_rfl) dP rfl rfl rfl rfl rfl ?_
 refine Pl.bT (part:=[.bool (decide ((Rat.num q)<0)),.slice Ab (limbs (Int.natAbs (Rat.num q))).length cb,.slice Bb (limbs (Rat.den q)).length bb]) (fun X hX=>Pl.Cb.ex aD hX) rfl Tryz.underlying41 rfl (by kernel_rfl) dP rfl rfl rfl rfl rfl ?_
 refine Pl.ah rfl rfl rfl rfl rfl (fun u X=>Pl.enters Tryz.func54 (by kernel_rfl) rfl u X) ?_
 refine Calls.mono (xK _ _ q L2 M2 (Qn.mk (Un.below ub (Pl.Ex.trans hE1 (Pl.Ex.trans hE2 (Pl.Ex.trans aO aR)))) (Un.below tb (Pl.Ex.trans hE1 (Pl.Ex.trans hE2 (Pl.Ex.trans aO aR)))) zb yb) (by omega)) ?_
 rintro e w5 ⟨vn,rfl,Qx,aP⟩
 obtain ⟨An,cn,Bn,bn,rfl,un,tn,zn,yn⟩:=Qx
 have jY:=Pl.Ex.size aP
 have hS5:=Pl.Ex.trans dP aP
 refine ⟨_,rfl,hS5,?_⟩
 refine Pl.ah rfl rfl rfl rfl rfl (fun u X=>Pl.enters Tryz.func46 (by kernel_rfl) rfl u X) ?_
 refine Calls.mono (uE _ _ _ p (-q) L M L2 M2 (Qn.mk (Un.below ua (Pl.Ex.trans hE1 (Pl.Ex.trans hE2 (Pl.Ex.trans aO (Pl.Ex.trans aR aP))))) (Un.below ta (Pl.Ex.trans hE1 (Pl.Ex.trans hE2 (Pl.Ex.trans aO (Pl.Ex.trans aR aP))))) za ya) (Qn.mk un tn zn yn) K N h1 h2 h3 hK hN) ?_
 rintro e w6 ⟨vs,rfl,hvs,aM⟩
 rw [← Rat.sub_eq_add_neg] at hvs
 obtain ⟨As,cs,Bs,bs,rfl,us,ts,zs,ys⟩:=hvs
 have jr:=Pl.Ex.size aM
 have bS:=Pl.Ex.trans hS5 aM
 refine ⟨_,rfl,bS,?_⟩
 refine Pl.bg (new:=[.bool (decide ((Rat.num (p-q))<0)),.slice As (limbs (Int.natAbs (Rat.num (p-q)))).length cs,.slice Bs (limbs (Rat.den (p-q))).length bs]) (Pl.Cb.ex aL (Pl.Ex.trans aR (Pl.Ex.trans aP aM))) (by kernel_rfl) rfl (by simp [Value.oneCell']) rfl rfl rfl rfl rfl rfl (fun Y hY=>Pl.Ex.xs bS hY (by omega)) ?_
 intro w7 gP dX
 have aH:=Pl.Ex.xs (Pl.Ex.trans aO (Pl.Ex.trans aR (Pl.Ex.trans aP aM))) gP (by omega)
 have iU:=Pl.Xs.size gP
 have bE:=Pl.Ex.xs bS gP (by omega)
 refine Pl.af ?_
 have k4:=Un.xs us gP (Pl.Cb.ex aL (Pl.Ex.trans aR (Pl.Ex.trans aP aM))) (by simp)
 have k5:=Un.xs ts gP (Pl.Cb.ex aL (Pl.Ex.trans aR (Pl.Ex.trans aP aM))) (by simp)
 repeat refine Pl.ay ?_
 exact Pl.cO rfl rfl dX Tryz.underlying41 rfl (by kernel_rfl) (⟨_,rfl,(Qn.le (Qn.mk k4 k5 zs ys) (by omega) (by omega)),(Pl.Ex.trans hE1 (Pl.Ex.trans hE2 aH))⟩)
end Go.Proofs.YtdpmbgomcjnohaaGreatDoor
namespace Go.Proofs.YtdpmbgomcjnohaaGreatDoor
open Go.RowKit 
set_option linter.all false
set_option maxRecDepth 100000
set_option maxHeartbeats 8000000
theorem ru {n k o i:Nat} (h:n=2^k*(2*o+1)) (hi:i≤k):tC n (i:Int)=if i=k then 1 else 0:=by
 unfold tC
 rw [if_neg (by omega),Int.toNat_natCast,h]
 obtain ⟨d,rfl⟩:∃ d,k=i+d:=⟨k-i,by omega⟩
 rw [Nat.pow_add,Nat.mul_assoc,Nat.mul_div_cancel_left _ (Nat.two_pow_pos i)]
 cases d with
 | zero=>rw [if_pos (by omega),Nat.pow_zero];omega
 | succ d=>rw [if_neg (by omega),Nat.pow_succ,Nat.mul_assoc,Nat.mul_left_comm];omega
theorem zm {m:Int} {k o:Nat} (h:m.natAbs=2^k*(2*o+1)):sg (decide (m<0)) (m.natAbs/2^k)=shl m (-(k:Int)):=by
 rw [h,Nat.mul_div_cancel_left _ (Nat.two_pow_pos k),bX]
 unfold sg
 rcases Int.natAbs_eq m with h1 | h1
 · rw [if_neg (by rw [decide_eq_true_iff];omega),h1,h,Int.natCast_mul,Int.natCast_pow]
   exact (Int.mul_ediv_cancel_left _ (Int.pow_ne_zero (by decide))).symm
 · rw [if_pos (by rw [decide_eq_true_iff];have:=Nat.two_pow_pos k;have:0<2^k*(2*o+1):=Nat.mul_pos this (by omega);omega),h1,h,Int.natCast_mul,Int.natCast_pow,← Int.mul_neg]
   exact (Int.mul_ediv_cancel_left _ (Int.pow_ne_zero (by decide))).symm
theorem jW (w:World) (vm:Value) (m ex:Int) (hm:Zn w vm m) (L:Nat) (lm:Sz m L) (hL:L≤30000) (he : -1000000000≤ex∧ex≤1000000000) (lo hi:Int) (h1:lo≤ex) (h2:ex+32*L≤hi) (h3:lo≤0) (h4:0≤hi) :
  Calls Tryz.prog 19 #[vm,.int .i64 ex] w fun e w'=>∃ u,e = .returned u∧Dn w' u (Dy.dv m ex) L lo hi∧Pl.Ex w w':=by
 obtain ⟨Am,cm,rfl,um⟩:=hm
 refine Pl.bL (n:=29) (vs:=[.agg #[.bool (decide (m<0)),.slice Am (limbs (Int.natAbs m)).length cm],.int .i64 ex]) Tryz.func19 rfl (by kernel_rfl) (by simp) ?_
 repeat refine Pl.ay ?_
 refine Pl.aB (by kernel_rfl) ?_
 refine Pl.dN (cs:=[.bool (decide (m<0)),.slice Am (limbs (Int.natAbs m)).length cm]) rfl rfl rfl rfl rfl rfl (fun Y hY=>trivial) ?_
 intro N1 w1 hE1 eP aC
 have ig:=Pl.Cb.lt aC
 have mH:=Pl.Ex.size hE1
 refine Pl.aU (z:=.agg #[.bool false,.slice none 0 0,.int .i64 0]) (by kernel_rfl) rfl rfl rfl rfl (fun Y hY=>trivial) ?_
 intro N2 w2 hE2 gD aD
 have iB:=Pl.Cb.lt aD
 have mY:=Pl.Ex.size hE2
 replace aD:Pl.Cb w2 N2 26 [.bool false,.slice none 0 0,.int .i64 0]:=aD
 refine Pl.af ?_
 repeat refine Pl.ay ?_
 refine Pl.aB (by kernel_rfl) ?_
 refine Pl.bC (.pointer (some ⟨N1,1,none⟩)) trivial rfl rfl rfl rfl (fun X=>by kernel_rfl) ?_
 refine Pl.eT (v:=.slice Am (limbs (Int.natAbs m)).length cm) Tryz.underlying22 rfl (Pl.Cb.at (j:=1) (Pl.Cb.ex aC hE2) rfl) trivial rfl rfl rfl rfl rfl ?_
 refine Pl.yG Tryz.underlying22 trivial rfl rfl rfl rfl rfl ?_
 by_cases c3:((limbs (Int.natAbs m)).length)=0
 · refine Pl.dO (v:=.bool true) (fun X=>Pl.gM (Pl.e_t (by omega)) X) trivial rfl rfl rfl rfl rfl rfl ?_
   refine Pl.af ?_
   repeat refine Pl.ay ?_
   refine Pl.iO rfl ?_
   repeat refine Pl.ay ?_
   refine Pl.aB (by kernel_rfl) ?_
   refine Pl.bC (.agg #[.bool false,.slice none 0 0,.int .i64 0]) trivial rfl rfl rfl rfl (fun X=>by kernel_rfl) ?_
   refine Pl.bg (new:=[.bool false,.slice none 0 0,.int .i64 0]) aD (by kernel_rfl) rfl (by simp [Value.oneCell']) rfl rfl rfl rfl rfl rfl (fun Y hY=>trivial) ?_
   intro w3 Fa dG
   have aO:=Pl.Ex.xs hE2 Fa (by omega)
   have mZ:=Pl.Xs.size Fa
   refine Pl.af ?_
   repeat refine Pl.ay ?_
   exact Pl.cO rfl rfl dG Tryz.underlying26 rfl (by kernel_rfl) (⟨_,rfl,by rw [show m=0 from Int.natAbs_eq_zero.1 (oO.1 c3),Dy.vM];exact Dn.zero _ L (by omega) (by omega),(Pl.Ex.trans hE1 aO)⟩)
 · refine Pl.dO (v:=.bool false) (fun X=>Pl.gM (Pl.e_f (by omega)) X) trivial rfl rfl rfl rfl rfl rfl ?_
   refine Pl.af ?_
   repeat refine Pl.ay ?_
   refine Pl.gm rfl ?_
   repeat refine Pl.ay ?_
   refine Pl.iK ?_
   repeat refine Pl.ay ?_
   refine Pl.aB (by kernel_rfl) ?_
   have hm0:m.natAbs≠0:=fun h9=>c3 (oO.2 h9)
   obtain ⟨k,o,hko⟩:=xE m.natAbs hm0
   have Qy:k<32*L:=BS hko (by have:=zW lm;rw [Nat.pow_mul];exact this)
   refine Pl.aG trivial rfl ?_
   refine Pl.af ?_
   repeat refine Pl.ay ?_
   refine Pl.rF ?_
   repeat refine Pl.ay ?_
   refine Pl.jv [(1,.int .i64 ex),(2,.pointer (some ⟨N1,0,none⟩)),(4,.pointer (some ⟨N2,0,none⟩)),(5,.int .i64 0)] (Pl.aa rfl (Pl.aa rfl (Pl.aa rfl (Pl.aa rfl Pl.aA)))) ?_
   repeat refine Pl.ay ?_
   refine Pl.Da (fun kq l' w'=>∃ i,(k-i)=kq∧Pl.Ex w2 w'∧(i≤k)∧l'=[(1,.int .i64 ex),(2,.pointer (some ⟨N1,0,none⟩)),(4,.pointer (some ⟨N2,0,none⟩)),(5,.int .i64 ((i:Nat):Int))]) _ ⟨0,rfl,Pl.Ex.refl _,(Nat.zero_le _),rfl⟩ ?_
   rintro kq _ w3 ⟨i,hk3,aO,hik,rfl⟩
   have mZ:=Pl.Ex.size aO
   repeat refine Pl.ay ?_
   refine Pl.aB (by kernel_rfl) ?_
   refine Pl.bC (.pointer (some ⟨N1,1,none⟩)) trivial rfl rfl rfl rfl (fun X=>by kernel_rfl) ?_
   refine Pl.eT (v:=.slice Am (limbs (Int.natAbs m)).length cm) Tryz.underlying22 rfl (Pl.Cb.at (j:=1) (Pl.Cb.ex aC (Pl.Ex.trans hE2 aO)) rfl) trivial rfl rfl rfl rfl rfl ?_
   refine Pl.aG trivial rfl ?_
   refine Pl.ah rfl rfl rfl rfl rfl (fun u X=>Pl.enters Tryz.func56 (by kernel_rfl) rfl u X) ?_
   refine Calls.mono (BF _ _ (Int.natAbs m) (i:Int) (Un.below um (Pl.Ex.trans hE1 (Pl.Ex.trans hE2 aO))) (by omega) (by omega) _ rfl) ?_
   rintro e w4 ⟨rfl,aR⟩
   have l9:=Pl.Ex.size aR
   refine ⟨_,rfl,trivial,?_⟩
   by_cases c4:(tC (Int.natAbs m) (i:Int))=0
   · refine Pl.dO (v:=.bool true) (fun X=>Pl.gM (Pl.e_t (by omega)) X) trivial rfl rfl rfl rfl rfl rfl ?_
     refine Pl.af ?_
     repeat refine Pl.ay ?_
     refine Pl.iO rfl ?_
     repeat refine Pl.ay ?_
     refine Pl.iK ?_
     repeat refine Pl.ay ?_
     refine Pl.rF ?_
     repeat refine Pl.ay ?_
     refine Pl.aB (by kernel_rfl) ?_
     have hlt:i<k:=by have:=ru hko hik;have h9:=c4;rw [this] at h9;split at h9<;>omega
     refine Pl.aG trivial rfl ?_
     refine Pl.dO (v:=.int .i64 (((i+1):Nat):Int)) (fun X=>sM (a:=i) (b:=1) (by omega) X) trivial rfl rfl rfl rfl rfl rfl ?_
     refine Pl.aG trivial rfl ?_
     refine Pl.af ?_
     refine Pl.uu ?_
     repeat refine Pl.ay ?_
     refine Pl.zX (k':=(k-(i+1))) [(1,.int .i64 ex),(2,.pointer (some ⟨N1,0,none⟩)),(4,.pointer (some ⟨N2,0,none⟩)),(5,.int .i64 (((i+1):Nat):Int))] (Pl.aa rfl (Pl.aa rfl (Pl.aa rfl (Pl.aa rfl Pl.aA)))) (by omega) ⟨(i+1),rfl,(Pl.Ex.trans aO aR),(by omega),rfl⟩
   · refine Pl.dO (v:=.bool false) (fun X=>Pl.gM (Pl.e_f (by omega)) X) trivial rfl rfl rfl rfl rfl rfl ?_
     refine Pl.af ?_
     repeat refine Pl.ay ?_
     refine Pl.gm rfl ?_
     repeat refine Pl.ay ?_
     refine Pl.Db ?_
     repeat refine Pl.ay ?_
     refine Pl.fJ (S:=fun X=>Pl.Ex w1 X) [(true,0,0),(true,1,1),(true,2,3),(true,3,7),(true,4,15),(true,7,31),(true,8,159),(true,9,415),(false,5,927),(false,6,959),(true,10,1023),(false,11,2047)] fo Pl.az (by kernel_rfl) (Pl.Ex.trans (Pl.Ex.trans hE2 (Pl.Ex.trans aO aR)) (Pl.Ex.drew _)) ?_
     have aP:=Pl.Ex.drew w4
     generalize w4.drew=w5 at *
     have jY:=Pl.Ex.size aP
     intro hS5
     have heq:i=k:=by have:=ru hko hik;have h9:=c4;rw [this] at h9;split at h9<;>omega
     refine Pl.bC (.pointer (some ⟨N1,0,none⟩)) hS5 rfl rfl rfl rfl (fun X=>by kernel_rfl) ?_
     refine Pl.iE (v:=.bool (decide (m<0))) Tryz.underlying4 rfl (fun X hX=>Pl.Cb.at (j:=0) (Pl.Cb.ex aC hX) rfl) hS5 rfl rfl rfl rfl rfl ?_
     refine Pl.bC (.pointer (some ⟨N1,1,none⟩)) hS5 rfl rfl rfl rfl (fun X=>by kernel_rfl) ?_
     refine Pl.iE (v:=.slice Am (limbs (Int.natAbs m)).length cm) Tryz.underlying22 rfl (fun X hX=>Pl.Cb.at (j:=1) (Pl.Cb.ex aC hX) rfl) hS5 rfl rfl rfl rfl rfl ?_
     refine Pl.aG hS5 rfl ?_
     refine Pl.dO (v:=.int .i64 (ex+((i:Nat):Int))) (fun X=>xG (by omega) X) hS5 rfl rfl rfl rfl rfl rfl ?_
     refine Pl.ah rfl rfl rfl rfl rfl (fun u X=>Pl.enters Tryz.func66 (by kernel_rfl) rfl u X) ?_
     refine Calls.mono (zk _ _ (Int.natAbs m) i (Un.below um (Pl.Ex.trans hE1 (Pl.Ex.trans hE2 (Pl.Ex.trans aO (Pl.Ex.trans aR aP))))) (by omega) (Nat.le_trans lm (by omega)) _ rfl) ?_
     rintro e w6 ⟨vh,rfl,VJ,aM⟩
     have jr:=Pl.Ex.size aM
     have bS:=Pl.Ex.trans hS5 aM
     refine ⟨_,rfl,bS,?_⟩
     refine Pl.ah rfl rfl rfl rfl rfl (fun u X=>Pl.enters Tryz.func62 (by kernel_rfl) rfl u X) ?_
     refine Calls.mono (dL _ (decide (m<0)) _ _ VJ (Nat.le_trans (Sn.down lm (Nat.div_le_self _ _)) (by omega)) _ (aI _) (shl m (-(i:Int))) (by rw [heq];exact zm hko)) ?_
     rintro e w7 ⟨vz,rfl,VK,aH⟩
     obtain ⟨Az,cz,rfl,uz⟩:=VK
     have iU:=Pl.Ex.size aH
     have bE:=Pl.Ex.trans bS aH
     refine ⟨_,rfl,bE,?_⟩
     refine Pl.bC (.agg #[.bool (decide ((shl m (-(i:Int)))<0)),.slice Az (limbs (Int.natAbs (shl m (-(i:Int))))).length cz,.int .i64 (ex+((i:Nat):Int))]) bE rfl rfl rfl rfl (fun X=>by kernel_rfl) ?_
     refine Pl.bg (new:=[.bool (decide ((shl m (-(i:Int)))<0)),.slice Az (limbs (Int.natAbs (shl m (-(i:Int))))).length cz,.int .i64 (ex+((i:Nat):Int))]) (Pl.Cb.ex aD (Pl.Ex.trans aO (Pl.Ex.trans aR (Pl.Ex.trans aP (Pl.Ex.trans aM aH))))) (by kernel_rfl) rfl (by simp [Value.oneCell']) rfl rfl rfl rfl rfl rfl (fun Y hY=>Pl.Ex.xs bE hY (by omega)) ?_
     intro w8 eX dG
     have bu:=Pl.Ex.xs (Pl.Ex.trans hE2 (Pl.Ex.trans aO (Pl.Ex.trans aR (Pl.Ex.trans aP (Pl.Ex.trans aM aH))))) eX (by omega)
     have mh:=Pl.Xs.size eX
     have bD:=Pl.Ex.xs bE eX (by omega)
     refine Pl.af ?_
     have k5:=Un.xs uz eX (Pl.Cb.ex aD (Pl.Ex.trans aO (Pl.Ex.trans aR (Pl.Ex.trans aP (Pl.Ex.trans aM aH))))) (by simp)
     repeat refine Pl.ay ?_
     exact Pl.cO rfl rfl dG Tryz.underlying26 rfl (by kernel_rfl) (⟨_,rfl,Dn.mk k5 (tO (heq ▸ hko)).1 (tO (heq ▸ hko)).2 (zY lm (by omega)) (by omega) (by omega),(Pl.Ex.trans hE1 bu)⟩)
end Go.Proofs.YtdpmbgomcjnohaaGreatDoor
namespace Go.Proofs.YtdpmbgomcjnohaaGreatDoor
open Go.RowKit 
set_option linter.all false
set_option maxRecDepth 100000
set_option maxHeartbeats 8000000
theorem qc {w:World} {v:Value} {xs:List Nat} {b:Bool} (h:U w v xs) (k:Nat):Sz (sg b (gN xs k)) k:=by
 show (limbs (sg b (gN xs k)).natAbs).length≤k
 rw [yt];exact kW xs k h.lim
def jh (z:Int):Nat:=(BitVec.ofInt 64 z&&&BitVec.ofInt 64 65535).toNat
theorem pI (z:Int):jh z≤65535:=by unfold jh;rw [BitVec.toNat_and];exact Nat.and_le_right
theorem uw (z:Int) (T:TypeId) (x y:Operand) (X:World):Pl.Bn Tryz.prog .and T x y (.int .i64 z) (.int .i64 65535) X = .ok (.int .i64 ((jh z:Nat):Int)) X:=by
 have h:=pI z
 have e:IntKind.i64.wrap ((jh z:Nat):Int)=((jh z:Nat):Int):=Pl.Jg (by omega) (by omega)
 show (do eqGuard .and T x y (.int .i64 z) (.int .i64 65535);binOp .and T (.int .i64 z) (.int .i64 65535):Sem Value).run Tryz.prog X=_
 have h2:(Op.intBits .and .i64 z 65535).run Tryz.prog X = .ok (.int .i64 (IntKind.i64.wrap ((jh z:Nat):Int))) X:=rfl
 rw [e] at h2
 exact h2
def tQ (b:Bool) (xs:List Nat) (ee:Int) (k:Nat):Rat:=Dy.dv (sg b (gN xs k)) (((jh ee%401:Nat):Int)-200)
theorem dF (w:World) (b:Bool) (A:Option Addr) (c:Nat) (xs:List Nat) (ee:Int) (hu:U w (.slice A xs.length c) xs) (k:Nat) (hk:k≤100) :
  Calls Tryz.prog 38 #[.agg #[.bool b,.slice A xs.length c,.int .i64 ee],.int .i64 ((k:Nat):Int)] w fun e w'=>∃ u,e = .returned u∧Dn w' u (tQ b xs ee k) k (-200) (200+32*(k:Int))∧Pl.Ex w w':=by
 have hn9:=pI ee
 refine Pl.bL (n:=15) (vs:=[.agg #[.bool b,.slice A xs.length c,.int .i64 ee],.int .i64 ((k:Nat):Int)]) Tryz.func38 rfl (by kernel_rfl) (by simp) ?_
 repeat refine Pl.ay ?_
 refine Pl.aB (by kernel_rfl) ?_
 refine Pl.dN (cs:=[.bool b,.slice A xs.length c,.int .i64 ee]) rfl rfl rfl rfl rfl rfl (fun Y hY=>trivial) ?_
 intro N1 w1 hE1 eP aC
 have ig:=Pl.Cb.lt aC
 have mH:=Pl.Ex.size hE1
 refine Pl.aU (z:=.agg #[.bool false,.slice none 0 0,.int .i64 0]) (by kernel_rfl) rfl rfl rfl rfl (fun Y hY=>trivial) ?_
 intro N2 w2 hE2 gD aD
 have iB:=Pl.Cb.lt aD
 have mY:=Pl.Ex.size hE2
 replace aD:Pl.Cb w2 N2 26 [.bool false,.slice none 0 0,.int .i64 0]:=aD
 refine Pl.af ?_
 repeat refine Pl.ay ?_
 refine Pl.fJ (S:=fun X=>Pl.Ex w1 X) [(true,0,0),(true,1,1),(true,2,3),(true,4,7),(true,5,23),(true,6,55),(true,7,119),(true,8,247),(false,3,503),(false,9,511),(false,10,1023)] fo Pl.az (by kernel_rfl) (Pl.Ex.trans hE2 (Pl.Ex.drew _)) ?_
 have aO:=Pl.Ex.drew w2
 generalize w2.drew=w3 at *
 have mZ:=Pl.Ex.size aO
 intro eY
 refine Pl.bC (.pointer (some ⟨N1,0,none⟩)) eY rfl rfl rfl rfl (fun X=>by kernel_rfl) ?_
 refine Pl.bT (part:=[.bool b,.slice A xs.length c]) (fun X hX=>Pl.Cb.ex aC hX) rfl Tryz.underlying24 rfl (by kernel_rfl) eY rfl rfl rfl rfl rfl ?_
 refine Pl.aG eY rfl ?_
 refine Pl.bC (.pointer (some ⟨N1,2,none⟩)) eY rfl rfl rfl rfl (fun X=>by kernel_rfl) ?_
 refine Pl.iE (v:=.int .i64 ee) Tryz.underlying3 rfl (fun X hX=>Pl.Cb.at (j:=2) (Pl.Cb.ex aC hX) rfl) eY rfl rfl rfl rfl rfl ?_
 refine Pl.dO (v:=.int .i64 (((jh ee):Nat):Int)) (fun X=>uw ee _ _ _ X) eY rfl rfl rfl rfl rfl rfl ?_
 refine Pl.dO (v:=.int .i64 ((((jh ee)%401):Nat):Int)) (fun X=>jR (a:=(jh ee)) (b:=401) (by omega) (by omega) X) eY rfl rfl rfl rfl rfl rfl ?_
 refine Pl.dO (v:=.int .i64 (((jh ee%401:Nat):Int)-200)) (fun X=>rO (by omega) X) eY rfl rfl rfl rfl rfl rfl ?_
 refine Pl.ah rfl rfl rfl rfl rfl (fun u X=>Pl.enters Tryz.func16 (by kernel_rfl) rfl u X) ?_
 refine Calls.mono (oU _ _ _ _ (Ri.below (⟨A,c,rfl,hu⟩:Ri w _ b xs) (Pl.Ex.trans hE1 (Pl.Ex.trans hE2 aO))) k _ rfl (by omega) _ rfl) ?_
 rintro e w4 ⟨v3,rfl,hv3,aR⟩
 obtain ⟨A4,c5,rfl,u6⟩:=hv3
 have l9:=Pl.Ex.size aR
 have dP:=Pl.Ex.trans eY aR
 refine ⟨_,rfl,dP,?_⟩
 refine Pl.ah rfl rfl rfl rfl rfl (fun u X=>Pl.enters Tryz.func19 (by kernel_rfl) rfl u X) ?_
 refine Calls.mono (jW _ _ (sg b (gN xs k)) (((jh ee%401:Nat):Int)-200) (Zn.of u6) k (qc hu k) (by omega) (by omega) (-200) (200+32*(k:Int)) (by omega) (by omega) (by omega) (by omega)) ?_
 rintro e w5 ⟨v7,rfl,hv7,aP⟩
 obtain ⟨m8,e9,Hl,c11,rfl,zL,BU⟩:=hv7
 have ZR:=BU.lo
 have ZT:=BU.hi
 have jY:=Pl.Ex.size aP
 have hS5:=Pl.Ex.trans dP aP
 refine ⟨_,rfl,hS5,?_⟩
 refine Pl.bg (new:=[.bool (decide (m8<0)),.slice Hl (limbs (Int.natAbs m8)).length c11,.int .i64 e9]) (Pl.Cb.ex aD (Pl.Ex.trans aO (Pl.Ex.trans aR aP))) (by kernel_rfl) rfl (by simp [Value.oneCell']) rfl rfl rfl rfl rfl rfl (fun Y hY=>Pl.Ex.xs hS5 hY (by omega)) ?_
 intro w6 lS dG
 have aM:=Pl.Ex.xs (Pl.Ex.trans hE2 (Pl.Ex.trans aO (Pl.Ex.trans aR aP))) lS (by omega)
 have jr:=Pl.Xs.size lS
 have bS:=Pl.Ex.xs hS5 lS (by omega)
 refine Pl.af ?_
 have k14:=Un.xs zL lS (Pl.Cb.ex aD (Pl.Ex.trans aO (Pl.Ex.trans aR aP))) (by simp)
 repeat refine Pl.ay ?_
 exact Pl.cO rfl rfl dG Tryz.underlying26 rfl (by kernel_rfl) (⟨_,rfl,(Dn.mk k14 BU.can BU.val BU.sz BU.lo BU.hi),(Pl.Ex.trans hE1 aM)⟩)
end Go.Proofs.YtdpmbgomcjnohaaGreatDoor
namespace Go.Proofs.YtdpmbgomcjnohaaGreatDoor
open Go.RowKit 
set_option linter.all false
set_option maxRecDepth 100000
set_option maxHeartbeats 8000000
theorem TB {m e lo hi:Int} {x:Rat} {L:Nat} (d:Dd m e x L lo hi) (j:Nat) (n:Int) (h:0≤e+n):Dy.cut j x n=x:=by
 rw [← d.val];exact Dy.TC j m e n h
theorem EI (w:World) (hg:Gt w) (bx0:Bool) (Ax:Option Addr) (cx:Nat) (lu:List Nat) (oM:Int) (zM:U w (.slice Ax lu.length cx) lu) (qy:Bool) (Ay:Option Addr) (cy:Nat) (oP:List Nat) (qA:Int) (IB:U w (.slice Ay oP.length cy) oP) (kK:Nat) (acM:kK<256) :
  Calls Tryz.prog 6 #[.agg #[.bool bx0,.slice Ax lu.length cx,.int .i64 oM],.agg #[.bool qy,.slice Ay oP.length cy,.int .i64 qA],.int .u8 ((kK:Nat):Int)] w fun e w'=>e = .returned (.bool true)∧Pl.Ex w w':=by
 obtain ⟨x,CJ⟩:∃ z,tQ bx0 lu oM 8=z:=⟨_,rfl⟩
 obtain ⟨y,Ho⟩:∃ z,tQ qy oP qA 8=z:=⟨_,rfl⟩
 refine Pl.bL (n:=114) (vs:=[.agg #[.bool bx0,.slice Ax lu.length cx,.int .i64 oM],.agg #[.bool qy,.slice Ay oP.length cy,.int .i64 qA],.int .u8 ((kK:Nat):Int)]) Tryz.func6 rfl (by kernel_rfl) (by simp) ?_
 repeat refine Pl.ay ?_
 refine Pl.aB (by kernel_rfl) ?_
 refine Pl.dN (cs:=[.bool bx0,.slice Ax lu.length cx,.int .i64 oM]) rfl rfl rfl rfl rfl rfl (fun Y hY=>trivial) ?_
 intro N1 w1 hE1 eP aC
 have ig:=Pl.Cb.lt aC
 have mH:=Pl.Ex.size hE1
 refine Pl.dN (cs:=[.bool qy,.slice Ay oP.length cy,.int .i64 qA]) rfl rfl rfl rfl rfl rfl (fun Y hY=>trivial) ?_
 intro N2 w2 hE2 gD aD
 have iB:=Pl.Cb.lt aD
 have mY:=Pl.Ex.size hE2
 refine Pl.aG trivial rfl ?_
 refine Pl.af ?_
 repeat refine Pl.ay ?_
 refine Pl.aB (by kernel_rfl) ?_
 refine Pl.ah rfl rfl rfl rfl rfl (fun u X=>Pl.enters Tryz.func12 (by kernel_rfl) rfl u X) ?_
 refine Calls.mono (sH _ (hg.ext (Pl.Ex.trans hE1 hE2))) ?_
 rintro e w3 ⟨rfl,aO⟩
 have mZ:=Pl.Ex.size aO
 refine ⟨_,rfl,trivial,?_⟩
 refine Pl.aG trivial rfl ?_
 refine Pl.af ?_
 repeat refine Pl.ay ?_
 refine Pl.nG (S:=fun X=>Pl.Ex w3 X) fo (Pl.Ex.trans (Pl.Ex.refl _) (Pl.Ex.drew _)) ?_
 have aR:=Pl.Ex.drew w3
 generalize w3.drew=w4 at *
 have l9:=Pl.Ex.size aR
 intro dP
 refine Pl.fP 0 255 (fun l' w'=>∃ (aN:Int) (bJ:Int) (aX:Option Addr) (aY:Nat) (aT:Int) (dA:Int) (dB:Option Addr) (dD:Nat) (aK:Nat) (bQ:Nat),Pl.Ex w4 w'∧(Un w' (.slice aX (limbs (Int.natAbs aN)).length aY) (Int.natAbs aN))∧(Dd aN bJ x 8 (-200) 456)∧(Un w' (.slice dB (limbs (Int.natAbs aT)).length dD) (Int.natAbs aT))∧(Dd aT dA y 8 (-200) 456)∧(Pl.Cb w' aK 26 [.bool (decide (aN<0)),.slice aX (limbs (Int.natAbs aN)).length aY,.int .i64 bJ])∧(w4.heap.size≤aK)∧(Pl.Cb w' bQ 26 [.bool (decide (aT<0)),.slice dB (limbs (Int.natAbs aT)).length dD,.int .i64 dA])∧(w4.heap.size≤bQ)∧(aK≠bQ)∧l'=[(2,.int .u8 ((kK:Nat):Int)),(6,.bool false),(7,.bool true),(8,.pointer (some ⟨aK,0,none⟩)),(9,.pointer (some ⟨bQ,0,none⟩))]) ?_ fun tF=>?_
 · rintro _ w5 ⟨aN,bJ,aX,aY,aT,dA,dB,dD,aK,bQ,aP,dS,bz,gG,bH,aV,jk,dV,nY,nZ,rfl⟩
   have jY:=Pl.Ex.size aP
   have hS5:=Pl.Ex.trans dP aP
   have mO:=bz.lo
   have mP:=bz.hi
   have pE:=bH.lo
   have pF:=bH.hi
   have gU:=Pl.Cb.lt aV
   have lZ:=Pl.Cb.lt dV
   refine Pl.tK (by kernel_rfl) ?_
   repeat refine Pl.ay ?_
   refine Pl.nG (S:=fun X=>Pl.Ex w5 X) fo (Pl.Ex.trans (Pl.Ex.refl _) (Pl.Ex.drew _)) ?_
   have aM:=Pl.Ex.drew w5
   generalize w5.drew=w6 at *
   have jr:=Pl.Ex.size aM
   intro bS
   refine Pl.fP 0 255 (fun l' w'=>∃ (iq:Option Addr) (iw:Nat) (mQ:Option Addr) (mR:Nat) (nO:Option Addr) (nP:Nat) (wZ:Option Addr) (xe:Nat) (fH:Nat) (mU:Nat),Pl.Ex w6 w'∧(Un w' (.slice iq (limbs (Int.natAbs (Rat.num x))).length iw) (Int.natAbs (Rat.num x)))∧(Un w' (.slice mQ (limbs (Rat.den x)).length mR) (Rat.den x))∧(Sz (Rat.num x) 23)∧(Sn (Rat.den x) 7)∧(Un w' (.slice nO (limbs (Int.natAbs (Rat.num y))).length nP) (Int.natAbs (Rat.num y)))∧(Un w' (.slice wZ (limbs (Rat.den y)).length xe) (Rat.den y))∧(Sz (Rat.num y) 23)∧(Sn (Rat.den y) 7)∧(Pl.Cb w' fH 41 [.bool (decide ((Rat.num x)<0)),.slice iq (limbs (Int.natAbs (Rat.num x))).length iw,.slice mQ (limbs (Rat.den x)).length mR])∧(w6.heap.size≤fH)∧(Pl.Cb w' mU 41 [.bool (decide ((Rat.num y)<0)),.slice nO (limbs (Int.natAbs (Rat.num y))).length nP,.slice wZ (limbs (Rat.den y)).length xe])∧(w6.heap.size≤mU)∧(fH≠mU)∧l'=[(2,.int .u8 ((kK:Nat):Int)),(6,.bool false),(7,.bool true),(8,.pointer (some ⟨aK,0,none⟩)),(9,.pointer (some ⟨bQ,0,none⟩)),(10,.pointer (some ⟨fH,0,none⟩)),(11,.pointer (some ⟨mU,0,none⟩))]) ?_ fun tF=>?_
   · rintro _ w7 ⟨iq,iw,mQ,mR,nO,nP,wZ,xe,fH,mU,aH,nW,xx,xy,xz,yg,IE,IG,II,fO,xL,qH,Kl,Km,rfl⟩
     have iU:=Pl.Ex.size aH
     have bE:=Pl.Ex.trans bS aH
     have uO:=Pl.Cb.lt fO
     have FY:=Pl.Cb.lt qH
     refine Pl.tK (by kernel_rfl) ?_
     repeat refine Pl.ay ?_
     refine Pl.aB (by kernel_rfl) ?_
     refine Pl.dJ (part:=[.bool (decide ((Rat.num x)<0)),.slice iq (limbs (Int.natAbs (Rat.num x))).length iw,.slice mQ (limbs (Rat.den x)).length mR]) fO rfl Tryz.underlying41 rfl (by kernel_rfl) trivial rfl rfl rfl rfl rfl ?_
     refine Pl.bC (.pointer (some ⟨aK,2,none⟩)) trivial rfl rfl rfl rfl (fun X=>by kernel_rfl) ?_
     refine Pl.eT (v:=.int .i64 bJ) Tryz.underlying3 rfl (Pl.Cb.at (j:=2) (Pl.Cb.ex aV (Pl.Ex.trans aM aH)) rfl) trivial rfl rfl rfl rfl rfl ?_
     refine Pl.mK (v:=.int .i64 (-bJ)) trivial rfl rfl rfl rfl rfl (fun X=>uA (by omega) X) ?_
     refine M6 (a:=(-bJ)) (b:=0) trivial rfl rfl rfl rfl rfl rfl ?_
     refine Pl.aG trivial rfl ?_
     refine Pl.zi (c:=((kK:Nat):Int)) Tryz.underlying3 (by kernel_rfl) (Pl.MX (a:=kK) rfl (Pl.Jg (by omega) (by omega))) trivial rfl rfl rfl rfl rfl ?_
     refine Pl.dO (v:=.int .i64 (((kK%5):Nat):Int)) (fun X=>jR (a:=kK) (b:=5) (by omega) (by omega) X) trivial rfl rfl rfl rfl rfl rfl ?_
     refine Pl.ah rfl rfl rfl rfl rfl (fun u X=>Pl.enters Tryz.func39 (by kernel_rfl) rfl u X) ?_
     refine Calls.mono (oh _ (hg.ext (Pl.Ex.trans hE1 (Pl.Ex.trans hE2 (Pl.Ex.trans aO (Pl.Ex.trans aR (Pl.Ex.trans aP (Pl.Ex.trans aM aH))))))) _ x (max (-bJ) 0) (kK%5) (by omega) 23 7 7 (Qn.mk nW xx xy xz) (by decide) (by omega) (-200) 992 (by omega) (by omega) (by decide) (by decide)) ?_
     rintro e w8 ⟨v3,rfl,hv3,bu⟩
     obtain ⟨m4,e5,A6,c7,rfl,u8,d9⟩:=hv3
     have Ve:=d9.lo
     have Vf:=d9.hi
     have mh:=Pl.Ex.size bu
     refine ⟨_,rfl,trivial,?_⟩
     refine Pl.aG trivial rfl ?_
     refine Pl.aU (z:=.agg #[.bool false,.slice none 0 0,.int .i64 0]) (by kernel_rfl) rfl rfl rfl rfl (fun Y hY=>trivial) ?_
     intro rM w9 dh EF jE
     have jA:=Pl.Cb.lt jE
     have pG:=Pl.Ex.size dh
     replace jE:Pl.Cb w9 rM 26 [.bool false,.slice none 0 0,.int .i64 0]:=jE
     refine Pl.bg (new:=[.bool (decide (m4<0)),.slice A6 (limbs (Int.natAbs m4)).length c7,.int .i64 e5]) jE (by kernel_rfl) rfl (by simp [Value.oneCell']) rfl rfl rfl rfl rfl rfl (fun Y hY=>trivial) ?_
     intro qD eU rG
     have bf:=Pl.Ex.xs dh eU (by omega)
     have mD:=Pl.Xs.size eU
     refine Pl.aG trivial rfl ?_
     refine Pl.af ?_
     repeat refine Pl.ay ?_
     refine Pl.aB (by kernel_rfl) ?_
     refine Pl.dJ (part:=[.bool (decide (aN<0)),.slice aX (limbs (Int.natAbs aN)).length aY,.int .i64 bJ]) (Pl.Cb.ex aV (Pl.Ex.trans aM (Pl.Ex.trans aH (Pl.Ex.trans bu bf)))) rfl Tryz.underlying26 rfl (by kernel_rfl) trivial rfl rfl rfl rfl rfl ?_
     refine Pl.bC (.pointer (some ⟨aK,2,none⟩)) trivial rfl rfl rfl rfl (fun X=>by kernel_rfl) ?_
     refine Pl.eT (v:=.int .i64 bJ) Tryz.underlying3 rfl (Pl.Cb.at (j:=2) (Pl.Cb.ex aV (Pl.Ex.trans aM (Pl.Ex.trans aH (Pl.Ex.trans bu bf)))) rfl) trivial rfl rfl rfl rfl rfl ?_
     refine Pl.mK (v:=.int .i64 (-bJ)) trivial rfl rfl rfl rfl rfl (fun X=>uA (by omega) X) ?_
     refine M6 (a:=(-bJ)) (b:=0) trivial rfl rfl rfl rfl rfl rfl ?_
     refine Pl.aG trivial rfl ?_
     refine Pl.zi (c:=((kK:Nat):Int)) Tryz.underlying3 (by kernel_rfl) (Pl.MX (a:=kK) rfl (Pl.Jg (by omega) (by omega))) trivial rfl rfl rfl rfl rfl ?_
     refine Pl.dO (v:=.int .i64 (((kK%5):Nat):Int)) (fun X=>jR (a:=kK) (b:=5) (by omega) (by omega) X) trivial rfl rfl rfl rfl rfl rfl ?_
     refine Pl.ah rfl rfl rfl rfl rfl (fun u X=>Pl.enters Tryz.func41 (by kernel_rfl) rfl u X) ?_
     refine Calls.mono (wY _ (hg.ext (Pl.Ex.trans hE1 (Pl.Ex.trans hE2 (Pl.Ex.trans aO (Pl.Ex.trans aR (Pl.Ex.trans aP (Pl.Ex.trans aM (Pl.Ex.trans aH (Pl.Ex.trans bu bf))))))))) _ x (max (-bJ) 0) (kK%5) (by omega) 8 7 _ _ (Dn.mk (Un.below dS (Pl.Ex.trans aM (Pl.Ex.trans aH (Pl.Ex.trans bu bf)))) bz.can bz.val bz.sz bz.lo bz.hi) (by decide) (by omega) (by decide) (by decide) (by omega) (-200) 456 (by omega) (by omega) (by decide) (by decide) (by decide) (by decide)) ?_
     rintro e uV ⟨v11,rfl,kL,bI⟩
     obtain ⟨m12,e13,qK,c15,rfl,u16,kG⟩:=kL
     have LF:=kG.lo
     have LG:=kG.hi
     have qx:=Pl.Ex.size bI
     refine ⟨_,rfl,trivial,?_⟩
     refine Pl.aG trivial rfl ?_
     refine Pl.aU (z:=.agg #[.bool false,.slice none 0 0,.int .i64 0]) (by kernel_rfl) rfl rfl rfl rfl (fun Y hY=>trivial) ?_
     intro Hq yu bY Dk iY
     have IJ:=Pl.Cb.lt iY
     have qQ:=Pl.Ex.size bY
     replace iY:Pl.Cb yu Hq 26 [.bool false,.slice none 0 0,.int .i64 0]:=iY
     refine Pl.bg (new:=[.bool (decide (m12<0)),.slice qK (limbs (Int.natAbs m12)).length c15,.int .i64 e13]) iY (by kernel_rfl) rfl (by simp [Value.oneCell']) rfl rfl rfl rfl rfl rfl (fun Y hY=>trivial) ?_
     intro yM gV Ak
     have bM:=Pl.Ex.xs bY gV (by omega)
     have rE:=Pl.Xs.size gV
     refine Pl.aG trivial rfl ?_
     refine Pl.af ?_
     repeat refine Pl.ay ?_
     refine Pl.fJ (S:=fun X=>Pl.Ex yM X) [(true,0,0),(true,1,1),(true,4,3),(true,5,19),(false,2,51),(false,3,55),(false,6,63),(false,7,127),(true,8,255),(true,9,511),(true,10,1023),(true,13,2047),(true,14,10239),(false,11,26623),(false,12,28671),(false,15,32767),(false,16,65535),(true,17,131071),(true,18,262143),(true,19,524287),(true,20,1048575),(true,23,2097151),(true,24,10485759),(false,21,27262975),(false,22,29360127),(false,25,33554431),(false,26,67108863),(true,27,134217727),(true,28,268435455),(true,29,536870911),(true,30,1073741823),(true,32,2147483647),(true,33,6442450943),(false,31,15032385535),(false,34,17179869183),(true,35,34359738367),(true,36,68719476735),(true,37,137438953471),(true,38,274877906943),(true,40,549755813887),(false,39,1649267441663),(false,41,2199023255551),(true,42,4398046511103),(true,43,8796093022207),(true,44,17592186044415),(true,45,35184372088831),(true,46,70368744177663),(false,47,140737488355327),(true,48,281474976710655),(true,49,562949953421311),(true,50,1125899906842623),(true,51,2251799813685247),(true,52,4503599627370495),(true,53,9007199254740991),(true,54,18014398509481983),(true,55,36028797018963967),(false,56,72057594037927935),(true,57,144115188075855871),(true,58,288230376151711743),(true,59,576460752303423487),(true,60,1152921504606846975),(true,61,2305843009213693951),(true,62,4611686018427387903),(true,63,9223372036854775807),(true,64,18446744073709551615),(true,65,36893488147419103231)] fo Pl.az (by kernel_rfl) (Pl.Ex.trans (Pl.Ex.refl _) (Pl.Ex.drew _)) ?_
     have ed:=Pl.Ex.drew yM
     generalize yM.drew=FV at *
     have zK:=Pl.Ex.size ed
     intro nU
     refine Pl.bT (part:=[.bool (decide (aN<0)),.slice aX (limbs (Int.natAbs aN)).length aY,.int .i64 bJ]) (fun X hX=>Pl.Cb.ex (Pl.Cb.ex aV (Pl.Ex.trans aM (Pl.Ex.trans aH (Pl.Ex.trans bu (Pl.Ex.trans bf (Pl.Ex.trans bI bM)))))) hX) rfl Tryz.underlying26 rfl (by kernel_rfl) nU rfl rfl rfl rfl rfl ?_
     refine Pl.bT (part:=[.bool (decide (aT<0)),.slice dB (limbs (Int.natAbs aT)).length dD,.int .i64 dA]) (fun X hX=>Pl.Cb.ex (Pl.Cb.ex dV (Pl.Ex.trans aM (Pl.Ex.trans aH (Pl.Ex.trans bu (Pl.Ex.trans bf (Pl.Ex.trans bI bM)))))) hX) rfl Tryz.underlying26 rfl (by kernel_rfl) nU rfl rfl rfl rfl rfl ?_
     refine Pl.bT (part:=[.bool (decide ((Rat.num x)<0)),.slice iq (limbs (Int.natAbs (Rat.num x))).length iw,.slice mQ (limbs (Rat.den x)).length mR]) (fun X hX=>Pl.Cb.ex (Pl.Cb.ex fO (Pl.Ex.trans bu (Pl.Ex.trans bf (Pl.Ex.trans bI bM)))) hX) rfl Tryz.underlying41 rfl (by kernel_rfl) nU rfl rfl rfl rfl rfl ?_
     refine Pl.bT (part:=[.bool (decide ((Rat.num y)<0)),.slice nO (limbs (Int.natAbs (Rat.num y))).length nP,.slice wZ (limbs (Rat.den y)).length xe]) (fun X hX=>Pl.Cb.ex (Pl.Cb.ex qH (Pl.Ex.trans bu (Pl.Ex.trans bf (Pl.Ex.trans bI bM)))) hX) rfl Tryz.underlying41 rfl (by kernel_rfl) nU rfl rfl rfl rfl rfl ?_
     refine Pl.ah rfl rfl rfl rfl rfl (fun u X=>Pl.enters Tryz.func26 (by kernel_rfl) rfl u X) ?_
     refine Calls.mono (lG _ (hg.ext (Pl.Ex.trans hE1 (Pl.Ex.trans hE2 (Pl.Ex.trans aO (Pl.Ex.trans aR (Pl.Ex.trans aP (Pl.Ex.trans aM (Pl.Ex.trans aH (Pl.Ex.trans bu (Pl.Ex.trans bf (Pl.Ex.trans bI (Pl.Ex.trans bM ed)))))))))))) _ _ x y 8 21 (-200) 456 (Dn.le (Dn.mk (Un.below dS (Pl.Ex.trans aM (Pl.Ex.trans aH (Pl.Ex.trans bu (Pl.Ex.trans bf (Pl.Ex.trans bI (Pl.Ex.trans bM ed))))))) bz.can bz.val bz.sz bz.lo bz.hi) (by decide) (by decide) (by decide)) (Dn.le (Dn.mk (Un.below gG (Pl.Ex.trans aM (Pl.Ex.trans aH (Pl.Ex.trans bu (Pl.Ex.trans bf (Pl.Ex.trans bI (Pl.Ex.trans bM ed))))))) bH.can bH.val bH.sz bH.lo bH.hi) (by decide) (by decide) (by decide)) (by decide) (by decide) (by decide) (by decide) (-201) 1416 (by decide) (by decide) (by decide) (by decide)) ?_
     rintro e IA ⟨v19,rfl,Dl,dK⟩
     obtain ⟨m20,e21,Ut,c23,rfl,u24,Kn⟩:=Dl
     have afY:=Kn.lo
     have afZ:=Kn.hi
     have Cz:=Pl.Ex.size dK
     have uM:=Pl.Ex.trans nU dK
     refine ⟨_,rfl,uM,?_⟩
     refine Pl.ah rfl rfl rfl rfl rfl (fun u X=>Pl.enters Tryz.func35 (by kernel_rfl) rfl u X) ?_
     refine Calls.mono (nu _ _ (x+y) 30 45 7 _ _ (Dn.mk u24 Kn.can Kn.val Kn.sz Kn.lo Kn.hi) (by decide) (by decide) (by decide) (by decide) (by decide) (by decide)) ?_
     rintro e w16 ⟨v26,rfl,ac5,dW⟩
     obtain ⟨A27,c28,A29,c30,rfl,u31,u32,ac6,ac7⟩:=ac5
     have LA:=Pl.Ex.size dW
     have xC:=Pl.Ex.trans uM dW
     refine ⟨_,rfl,xC,?_⟩
     refine Pl.ah rfl rfl rfl rfl rfl (fun u X=>Pl.enters Tryz.func46 (by kernel_rfl) rfl u X) ?_
     refine Calls.mono (uE _ _ _ x y 23 7 23 7 (Qn.mk (Un.below nW (Pl.Ex.trans bu (Pl.Ex.trans bf (Pl.Ex.trans bI (Pl.Ex.trans bM (Pl.Ex.trans ed (Pl.Ex.trans dK dW))))))) (Un.below xx (Pl.Ex.trans bu (Pl.Ex.trans bf (Pl.Ex.trans bI (Pl.Ex.trans bM (Pl.Ex.trans ed (Pl.Ex.trans dK dW))))))) xy xz) (Qn.mk (Un.below yg (Pl.Ex.trans bu (Pl.Ex.trans bf (Pl.Ex.trans bI (Pl.Ex.trans bM (Pl.Ex.trans ed (Pl.Ex.trans dK dW))))))) (Un.below IE (Pl.Ex.trans bu (Pl.Ex.trans bf (Pl.Ex.trans bI (Pl.Ex.trans bM (Pl.Ex.trans ed (Pl.Ex.trans dK dW))))))) IG II) 31 14 (by omega) (by omega) (by omega) (by omega) (by omega)) ?_
     rintro e Oa ⟨v34,rfl,hv34,eu⟩
     obtain ⟨A35,c36,A37,c38,rfl,u39,u40,aj',aka⟩:=hv34
     have LC:=Pl.Ex.size eu
     have vk:=Pl.Ex.trans xC eu
     refine ⟨_,rfl,vk,?_⟩
     refine Pl.ah rfl rfl rfl rfl rfl (fun u X=>Pl.enters Tryz.func34 (by kernel_rfl) rfl u X) ?_
     refine Calls.mono (wy _ _ _ (x+y) (x+y) 75 7 31 14 (Qn.mk (Un.below u31 eu) (Un.below u32 eu) ac6 ac7) (Qn.mk u39 u40 aj' aka) (by omega) (by omega) (by omega) (by omega)) ?_
     rintro e OH ⟨rfl,dZ⟩
     rw [decide_eq_true (show (x+y)=(x+y) from rfl)]
     have J6:=Pl.Ex.size dZ
     have uk:=Pl.Ex.trans vk dZ
     refine ⟨_,rfl,uk,?_⟩
     refine Pl.aG uk rfl ?_
     refine Pl.bT (part:=[.bool (decide (aN<0)),.slice aX (limbs (Int.natAbs aN)).length aY,.int .i64 bJ]) (fun X hX=>Pl.Cb.ex (Pl.Cb.ex aV (Pl.Ex.trans aM (Pl.Ex.trans aH (Pl.Ex.trans bu (Pl.Ex.trans bf (Pl.Ex.trans bI bM)))))) hX) rfl Tryz.underlying26 rfl (by kernel_rfl) uk rfl rfl rfl rfl rfl ?_
     refine Pl.bT (part:=[.bool (decide (aT<0)),.slice dB (limbs (Int.natAbs aT)).length dD,.int .i64 dA]) (fun X hX=>Pl.Cb.ex (Pl.Cb.ex dV (Pl.Ex.trans aM (Pl.Ex.trans aH (Pl.Ex.trans bu (Pl.Ex.trans bf (Pl.Ex.trans bI bM)))))) hX) rfl Tryz.underlying26 rfl (by kernel_rfl) uk rfl rfl rfl rfl rfl ?_
     refine Pl.bT (part:=[.bool (decide ((Rat.num x)<0)),.slice iq (limbs (Int.natAbs (Rat.num x))).length iw,.slice mQ (limbs (Rat.den x)).length mR]) (fun X hX=>Pl.Cb.ex (Pl.Cb.ex fO (Pl.Ex.trans bu (Pl.Ex.trans bf (Pl.Ex.trans bI bM)))) hX) rfl Tryz.underlying41 rfl (by kernel_rfl) uk rfl rfl rfl rfl rfl ?_
     refine Pl.bT (part:=[.bool (decide ((Rat.num y)<0)),.slice nO (limbs (Int.natAbs (Rat.num y))).length nP,.slice wZ (limbs (Rat.den y)).length xe]) (fun X hX=>Pl.Cb.ex (Pl.Cb.ex qH (Pl.Ex.trans bu (Pl.Ex.trans bf (Pl.Ex.trans bI bM)))) hX) rfl Tryz.underlying41 rfl (by kernel_rfl) uk rfl rfl rfl rfl rfl ?_
     refine Pl.ah rfl rfl rfl rfl rfl (fun u X=>Pl.enters Tryz.func28 (by kernel_rfl) rfl u X) ?_
     refine Calls.mono (sK _ (hg.ext (Pl.Ex.trans hE1 (Pl.Ex.trans hE2 (Pl.Ex.trans aO (Pl.Ex.trans aR (Pl.Ex.trans aP (Pl.Ex.trans aM (Pl.Ex.trans aH (Pl.Ex.trans bu (Pl.Ex.trans bf (Pl.Ex.trans bI (Pl.Ex.trans bM (Pl.Ex.trans ed (Pl.Ex.trans dK (Pl.Ex.trans dW (Pl.Ex.trans eu dZ)))))))))))))))) _ _ x y 8 21 (-200) 456 (Dn.le (Dn.mk (Un.below dS (Pl.Ex.trans aM (Pl.Ex.trans aH (Pl.Ex.trans bu (Pl.Ex.trans bf (Pl.Ex.trans bI (Pl.Ex.trans bM (Pl.Ex.trans ed (Pl.Ex.trans dK (Pl.Ex.trans dW (Pl.Ex.trans eu dZ))))))))))) bz.can bz.val bz.sz bz.lo bz.hi) (by decide) (by decide) (by decide):Dn _ _ _ 8 (-200) 456) (Dn.le (Dn.mk (Un.below gG (Pl.Ex.trans aM (Pl.Ex.trans aH (Pl.Ex.trans bu (Pl.Ex.trans bf (Pl.Ex.trans bI (Pl.Ex.trans bM (Pl.Ex.trans ed (Pl.Ex.trans dK (Pl.Ex.trans dW (Pl.Ex.trans eu dZ))))))))))) bH.can bH.val bH.sz bH.lo bH.hi) (by decide) (by decide) (by decide):Dn _ _ _ 8 (-200) 456) (by decide) (by decide) (by decide) (by decide) (-201) 1416 (by decide) (by decide) (by decide) (by decide)) ?_
     rintro e Vd ⟨v42,rfl,akb,fu⟩
     obtain ⟨m43,e44,A45,c46,rfl,u47,d48⟩:=akb
     have aq4:=d48.lo
     have aq5:=d48.hi
     have J7:=Pl.Ex.size fu
     have sV:=Pl.Ex.trans uk fu
     refine ⟨_,rfl,sV,?_⟩
     refine Pl.ah rfl rfl rfl rfl rfl (fun u X=>Pl.enters Tryz.func35 (by kernel_rfl) rfl u X) ?_
     refine Calls.mono (nu _ _ (x-y) 30 45 7 _ _ (Dn.mk u47 d48.can d48.val d48.sz d48.lo d48.hi) (by decide) (by decide) (by decide) (by decide) (by decide) (by decide)) ?_
     rintro e Y5 ⟨v49,rfl,ac9,hE20⟩
     obtain ⟨A50,c51,A52,c53,rfl,u54,u55,ac',ada⟩:=ac9
     have LD:=Pl.Ex.size hE20
     have uP:=Pl.Ex.trans sV hE20
     refine ⟨_,rfl,uP,?_⟩
     refine Pl.ah rfl rfl rfl rfl rfl (fun u X=>Pl.enters Tryz.func47 (by kernel_rfl) rfl u X) ?_
     refine Calls.mono (mF _ _ _ x y 23 7 23 7 (Qn.mk (Un.below nW (Pl.Ex.trans bu (Pl.Ex.trans bf (Pl.Ex.trans bI (Pl.Ex.trans bM (Pl.Ex.trans ed (Pl.Ex.trans dK (Pl.Ex.trans dW (Pl.Ex.trans eu (Pl.Ex.trans dZ (Pl.Ex.trans fu hE20))))))))))) (Un.below xx (Pl.Ex.trans bu (Pl.Ex.trans bf (Pl.Ex.trans bI (Pl.Ex.trans bM (Pl.Ex.trans ed (Pl.Ex.trans dK (Pl.Ex.trans dW (Pl.Ex.trans eu (Pl.Ex.trans dZ (Pl.Ex.trans fu hE20))))))))))) xy xz) (Qn.mk (Un.below yg (Pl.Ex.trans bu (Pl.Ex.trans bf (Pl.Ex.trans bI (Pl.Ex.trans bM (Pl.Ex.trans ed (Pl.Ex.trans dK (Pl.Ex.trans dW (Pl.Ex.trans eu (Pl.Ex.trans dZ (Pl.Ex.trans fu hE20))))))))))) (Un.below IE (Pl.Ex.trans bu (Pl.Ex.trans bf (Pl.Ex.trans bI (Pl.Ex.trans bM (Pl.Ex.trans ed (Pl.Ex.trans dK (Pl.Ex.trans dW (Pl.Ex.trans eu (Pl.Ex.trans dZ (Pl.Ex.trans fu hE20))))))))))) IG II) 31 14 (by omega) (by omega) (by omega) (by omega) (by omega)) ?_
     rintro e Vg ⟨v57,rfl,QF,fT⟩
     obtain ⟨A58,c59,A60,c61,rfl,u62,u63,akd,ake⟩:=QF
     have OI:=Pl.Ex.size fT
     have qL:=Pl.Ex.trans uP fT
     refine ⟨_,rfl,qL,?_⟩
     refine Pl.ah rfl rfl rfl rfl rfl (fun u X=>Pl.enters Tryz.func34 (by kernel_rfl) rfl u X) ?_
     refine Calls.mono (wy _ _ _ (x-y) (x-y) 75 7 31 14 (Qn.mk (Un.below u54 fT) (Un.below u55 fT) ac' ada) (Qn.mk u62 u63 akd ake) (by omega) (by omega) (by omega) (by omega)) ?_
     rintro e w22 ⟨rfl,gF⟩
     rw [decide_eq_true (show (x-y)=(x-y) from rfl)]
     have OJ:=Pl.Ex.size gF
     have vY:=Pl.Ex.trans qL gF
     refine ⟨_,rfl,vY,?_⟩
     refine Pl.aG vY rfl ?_
     refine Pl.bT (part:=[.bool (decide (aN<0)),.slice aX (limbs (Int.natAbs aN)).length aY,.int .i64 bJ]) (fun X hX=>Pl.Cb.ex (Pl.Cb.ex aV (Pl.Ex.trans aM (Pl.Ex.trans aH (Pl.Ex.trans bu (Pl.Ex.trans bf (Pl.Ex.trans bI bM)))))) hX) rfl Tryz.underlying26 rfl (by kernel_rfl) vY rfl rfl rfl rfl rfl ?_
     refine Pl.bT (part:=[.bool (decide (aT<0)),.slice dB (limbs (Int.natAbs aT)).length dD,.int .i64 dA]) (fun X hX=>Pl.Cb.ex (Pl.Cb.ex dV (Pl.Ex.trans aM (Pl.Ex.trans aH (Pl.Ex.trans bu (Pl.Ex.trans bf (Pl.Ex.trans bI bM)))))) hX) rfl Tryz.underlying26 rfl (by kernel_rfl) vY rfl rfl rfl rfl rfl ?_
     refine Pl.bT (part:=[.bool (decide ((Rat.num x)<0)),.slice iq (limbs (Int.natAbs (Rat.num x))).length iw,.slice mQ (limbs (Rat.den x)).length mR]) (fun X hX=>Pl.Cb.ex (Pl.Cb.ex fO (Pl.Ex.trans bu (Pl.Ex.trans bf (Pl.Ex.trans bI bM)))) hX) rfl Tryz.underlying41 rfl (by kernel_rfl) vY rfl rfl rfl rfl rfl ?_
     refine Pl.bT (part:=[.bool (decide ((Rat.num y)<0)),.slice nO (limbs (Int.natAbs (Rat.num y))).length nP,.slice wZ (limbs (Rat.den y)).length xe]) (fun X hX=>Pl.Cb.ex (Pl.Cb.ex qH (Pl.Ex.trans bu (Pl.Ex.trans bf (Pl.Ex.trans bI bM)))) hX) rfl Tryz.underlying41 rfl (by kernel_rfl) vY rfl rfl rfl rfl rfl ?_
     refine Pl.ah rfl rfl rfl rfl rfl (fun u X=>Pl.enters Tryz.func30 (by kernel_rfl) rfl u X) ?_
     refine Calls.mono (lW _ (hg.ext (Pl.Ex.trans hE1 (Pl.Ex.trans hE2 (Pl.Ex.trans aO (Pl.Ex.trans aR (Pl.Ex.trans aP (Pl.Ex.trans aM (Pl.Ex.trans aH (Pl.Ex.trans bu (Pl.Ex.trans bf (Pl.Ex.trans bI (Pl.Ex.trans bM (Pl.Ex.trans ed (Pl.Ex.trans dK (Pl.Ex.trans dW (Pl.Ex.trans eu (Pl.Ex.trans dZ (Pl.Ex.trans fu (Pl.Ex.trans hE20 (Pl.Ex.trans fT gF)))))))))))))))))))) _ _ x y 8 8 (-200) 456 (Dn.le (Dn.mk (Un.below dS (Pl.Ex.trans aM (Pl.Ex.trans aH (Pl.Ex.trans bu (Pl.Ex.trans bf (Pl.Ex.trans bI (Pl.Ex.trans bM (Pl.Ex.trans ed (Pl.Ex.trans dK (Pl.Ex.trans dW (Pl.Ex.trans eu (Pl.Ex.trans dZ (Pl.Ex.trans fu (Pl.Ex.trans hE20 (Pl.Ex.trans fT gF))))))))))))))) bz.can bz.val bz.sz bz.lo bz.hi) (by decide) (by decide) (by decide):Dn _ _ _ 8 (-200) 456) (Dn.le (Dn.mk (Un.below gG (Pl.Ex.trans aM (Pl.Ex.trans aH (Pl.Ex.trans bu (Pl.Ex.trans bf (Pl.Ex.trans bI (Pl.Ex.trans bM (Pl.Ex.trans ed (Pl.Ex.trans dK (Pl.Ex.trans dW (Pl.Ex.trans eu (Pl.Ex.trans dZ (Pl.Ex.trans fu (Pl.Ex.trans hE20 (Pl.Ex.trans fT gF))))))))))))))) bH.can bH.val bH.sz bH.lo bH.hi) (by decide) (by decide) (by decide):Dn _ _ _ 8 (-200) 456) (by decide) (by decide) (by decide) (by decide) (-400) 1424 (by decide) (by decide) (by decide) (by decide)) ?_
     rintro e ZY ⟨v65,rfl,ade,iH⟩
     obtain ⟨m66,e67,A68,c69,rfl,u70,d71⟩:=ade
     have aq9:=d71.lo
     have ara:=d71.hi
     have OL:=Pl.Ex.size iH
     have xm:=Pl.Ex.trans vY iH
     refine ⟨_,rfl,xm,?_⟩
     refine Pl.ah rfl rfl rfl rfl rfl (fun u X=>Pl.enters Tryz.func35 (by kernel_rfl) rfl u X) ?_
     refine Calls.mono (nu _ _ (x*y) 16 45 13 _ _ (Dn.mk u70 d71.can d71.val d71.sz d71.lo d71.hi) (by decide) (by decide) (by decide) (by decide) (by decide) (by decide)) ?_
     rintro e ZZ ⟨v72,rfl,akf,gY⟩
     obtain ⟨A73,c74,A75,c76,rfl,u77,u78,akh,aki⟩:=akf
     have OM:=Pl.Ex.size gY
     have Bd:=Pl.Ex.trans xm gY
     refine ⟨_,rfl,Bd,?_⟩
     refine Pl.ah rfl rfl rfl rfl rfl (fun u X=>Pl.enters Tryz.func48 (by kernel_rfl) rfl u X) ?_
     refine Calls.mono (og _ _ _ x y 23 7 23 7 (Qn.mk (Un.below nW (Pl.Ex.trans bu (Pl.Ex.trans bf (Pl.Ex.trans bI (Pl.Ex.trans bM (Pl.Ex.trans ed (Pl.Ex.trans dK (Pl.Ex.trans dW (Pl.Ex.trans eu (Pl.Ex.trans dZ (Pl.Ex.trans fu (Pl.Ex.trans hE20 (Pl.Ex.trans fT (Pl.Ex.trans gF (Pl.Ex.trans iH gY))))))))))))))) (Un.below xx (Pl.Ex.trans bu (Pl.Ex.trans bf (Pl.Ex.trans bI (Pl.Ex.trans bM (Pl.Ex.trans ed (Pl.Ex.trans dK (Pl.Ex.trans dW (Pl.Ex.trans eu (Pl.Ex.trans dZ (Pl.Ex.trans fu (Pl.Ex.trans hE20 (Pl.Ex.trans fT (Pl.Ex.trans gF (Pl.Ex.trans iH gY))))))))))))))) xy xz) (Qn.mk (Un.below yg (Pl.Ex.trans bu (Pl.Ex.trans bf (Pl.Ex.trans bI (Pl.Ex.trans bM (Pl.Ex.trans ed (Pl.Ex.trans dK (Pl.Ex.trans dW (Pl.Ex.trans eu (Pl.Ex.trans dZ (Pl.Ex.trans fu (Pl.Ex.trans hE20 (Pl.Ex.trans fT (Pl.Ex.trans gF (Pl.Ex.trans iH gY))))))))))))))) (Un.below IE (Pl.Ex.trans bu (Pl.Ex.trans bf (Pl.Ex.trans bI (Pl.Ex.trans bM (Pl.Ex.trans ed (Pl.Ex.trans dK (Pl.Ex.trans dW (Pl.Ex.trans eu (Pl.Ex.trans dZ (Pl.Ex.trans fu (Pl.Ex.trans hE20 (Pl.Ex.trans fT (Pl.Ex.trans gF (Pl.Ex.trans iH gY))))))))))))))) IG II) 46 14 (by omega) (by omega) (by omega) (by omega)) ?_
     rintro e w25 ⟨v80,rfl,akj,iM⟩
     obtain ⟨A81,c82,A83,c84,rfl,u85,u86,akk,akl⟩:=akj
     have VM:=Pl.Ex.size iM
     have CB:=Pl.Ex.trans Bd iM
     refine ⟨_,rfl,CB,?_⟩
     refine Pl.ah rfl rfl rfl rfl rfl (fun u X=>Pl.enters Tryz.func34 (by kernel_rfl) rfl u X) ?_
     refine Calls.mono (wy _ _ _ (x*y) (x*y) 61 13 46 14 (Qn.mk (Un.below u77 iM) (Un.below u78 iM) akh aki) (Qn.mk u85 u86 akk akl) (by omega) (by omega) (by omega) (by omega)) ?_
     rintro e w26 ⟨rfl,jd⟩
     rw [decide_eq_true (show (x*y)=(x*y) from rfl)]
     have VN:=Pl.Ex.size jd
     have yh:=Pl.Ex.trans CB jd
     refine ⟨_,rfl,yh,?_⟩
     refine Pl.aG yh rfl ?_
     refine Pl.bT (part:=[.bool (decide (aN<0)),.slice aX (limbs (Int.natAbs aN)).length aY,.int .i64 bJ]) (fun X hX=>Pl.Cb.ex (Pl.Cb.ex aV (Pl.Ex.trans aM (Pl.Ex.trans aH (Pl.Ex.trans bu (Pl.Ex.trans bf (Pl.Ex.trans bI bM)))))) hX) rfl Tryz.underlying26 rfl (by kernel_rfl) yh rfl rfl rfl rfl rfl ?_
     refine Pl.bT (part:=[.bool (decide (aT<0)),.slice dB (limbs (Int.natAbs aT)).length dD,.int .i64 dA]) (fun X hX=>Pl.Cb.ex (Pl.Cb.ex dV (Pl.Ex.trans aM (Pl.Ex.trans aH (Pl.Ex.trans bu (Pl.Ex.trans bf (Pl.Ex.trans bI bM)))))) hX) rfl Tryz.underlying26 rfl (by kernel_rfl) yh rfl rfl rfl rfl rfl ?_
     refine Pl.bT (part:=[.bool (decide ((Rat.num x)<0)),.slice iq (limbs (Int.natAbs (Rat.num x))).length iw,.slice mQ (limbs (Rat.den x)).length mR]) (fun X hX=>Pl.Cb.ex (Pl.Cb.ex fO (Pl.Ex.trans bu (Pl.Ex.trans bf (Pl.Ex.trans bI bM)))) hX) rfl Tryz.underlying41 rfl (by kernel_rfl) yh rfl rfl rfl rfl rfl ?_
     refine Pl.bT (part:=[.bool (decide ((Rat.num y)<0)),.slice nO (limbs (Int.natAbs (Rat.num y))).length nP,.slice wZ (limbs (Rat.den y)).length xe]) (fun X hX=>Pl.Cb.ex (Pl.Cb.ex qH (Pl.Ex.trans bu (Pl.Ex.trans bf (Pl.Ex.trans bI bM)))) hX) rfl Tryz.underlying41 rfl (by kernel_rfl) yh rfl rfl rfl rfl rfl ?_
     refine Pl.ah rfl rfl rfl rfl rfl (fun u X=>Pl.enters Tryz.func20 (by kernel_rfl) rfl u X) ?_
     refine Calls.mono (vU _ (hg.ext (Pl.Ex.trans hE1 (Pl.Ex.trans hE2 (Pl.Ex.trans aO (Pl.Ex.trans aR (Pl.Ex.trans aP (Pl.Ex.trans aM (Pl.Ex.trans aH (Pl.Ex.trans bu (Pl.Ex.trans bf (Pl.Ex.trans bI (Pl.Ex.trans bM (Pl.Ex.trans ed (Pl.Ex.trans dK (Pl.Ex.trans dW (Pl.Ex.trans eu (Pl.Ex.trans dZ (Pl.Ex.trans fu (Pl.Ex.trans hE20 (Pl.Ex.trans fT (Pl.Ex.trans gF (Pl.Ex.trans iH (Pl.Ex.trans gY (Pl.Ex.trans iM jd)))))))))))))))))))))))) _ _ x y 8 21 (-200) 456 (Dn.le (Dn.mk (Un.below dS (Pl.Ex.trans aM (Pl.Ex.trans aH (Pl.Ex.trans bu (Pl.Ex.trans bf (Pl.Ex.trans bI (Pl.Ex.trans bM (Pl.Ex.trans ed (Pl.Ex.trans dK (Pl.Ex.trans dW (Pl.Ex.trans eu (Pl.Ex.trans dZ (Pl.Ex.trans fu (Pl.Ex.trans hE20 (Pl.Ex.trans fT (Pl.Ex.trans gF (Pl.Ex.trans iH (Pl.Ex.trans gY (Pl.Ex.trans iM jd))))))))))))))))))) bz.can bz.val bz.sz bz.lo bz.hi) (by decide) (by decide) (by decide)) (Dn.le (Dn.mk (Un.below gG (Pl.Ex.trans aM (Pl.Ex.trans aH (Pl.Ex.trans bu (Pl.Ex.trans bf (Pl.Ex.trans bI (Pl.Ex.trans bM (Pl.Ex.trans ed (Pl.Ex.trans dK (Pl.Ex.trans dW (Pl.Ex.trans eu (Pl.Ex.trans dZ (Pl.Ex.trans fu (Pl.Ex.trans hE20 (Pl.Ex.trans fT (Pl.Ex.trans gF (Pl.Ex.trans iH (Pl.Ex.trans gY (Pl.Ex.trans iM jd))))))))))))))))))) bH.can bH.val bH.sz bH.lo bH.hi) (by decide) (by decide) (by decide)) (by decide) (by decide) (by decide) (by decide) (-201) 1416 (by decide) (by decide) (by decide) (by decide)) ?_
     rintro e w27 ⟨k88,rfl,adg,kR⟩
     have ard:=(show -1≤k88∧k88≤1 from ⟨adg.1,adg.2.1⟩)
     have Z7:=Pl.Ex.size kR
     have Ko:=Pl.Ex.trans yh kR
     refine ⟨_,rfl,Ko,?_⟩
     refine Pl.ah rfl rfl rfl rfl rfl (fun u X=>Pl.enters Tryz.func49 (by kernel_rfl) rfl u X) ?_
     refine Calls.mono (zw _ _ _ x y 23 7 23 7 (Qn.mk (Un.below nW (Pl.Ex.trans bu (Pl.Ex.trans bf (Pl.Ex.trans bI (Pl.Ex.trans bM (Pl.Ex.trans ed (Pl.Ex.trans dK (Pl.Ex.trans dW (Pl.Ex.trans eu (Pl.Ex.trans dZ (Pl.Ex.trans fu (Pl.Ex.trans hE20 (Pl.Ex.trans fT (Pl.Ex.trans gF (Pl.Ex.trans iH (Pl.Ex.trans gY (Pl.Ex.trans iM (Pl.Ex.trans jd kR)))))))))))))))))) (Un.below xx (Pl.Ex.trans bu (Pl.Ex.trans bf (Pl.Ex.trans bI (Pl.Ex.trans bM (Pl.Ex.trans ed (Pl.Ex.trans dK (Pl.Ex.trans dW (Pl.Ex.trans eu (Pl.Ex.trans dZ (Pl.Ex.trans fu (Pl.Ex.trans hE20 (Pl.Ex.trans fT (Pl.Ex.trans gF (Pl.Ex.trans iH (Pl.Ex.trans gY (Pl.Ex.trans iM (Pl.Ex.trans jd kR)))))))))))))))))) xy xz) (Qn.mk (Un.below yg (Pl.Ex.trans bu (Pl.Ex.trans bf (Pl.Ex.trans bI (Pl.Ex.trans bM (Pl.Ex.trans ed (Pl.Ex.trans dK (Pl.Ex.trans dW (Pl.Ex.trans eu (Pl.Ex.trans dZ (Pl.Ex.trans fu (Pl.Ex.trans hE20 (Pl.Ex.trans fT (Pl.Ex.trans gF (Pl.Ex.trans iH (Pl.Ex.trans gY (Pl.Ex.trans iM (Pl.Ex.trans jd kR)))))))))))))))))) (Un.below IE (Pl.Ex.trans bu (Pl.Ex.trans bf (Pl.Ex.trans bI (Pl.Ex.trans bM (Pl.Ex.trans ed (Pl.Ex.trans dK (Pl.Ex.trans dW (Pl.Ex.trans eu (Pl.Ex.trans dZ (Pl.Ex.trans fu (Pl.Ex.trans hE20 (Pl.Ex.trans fT (Pl.Ex.trans gF (Pl.Ex.trans iH (Pl.Ex.trans gY (Pl.Ex.trans iM (Pl.Ex.trans jd kR)))))))))))))))))) IG II) (by omega) (by omega)) ?_
     rintro e w28 ⟨k89,rfl,adh,jX⟩
     have arf:=(show -1≤k89∧k89≤1 from ⟨adh.1,adh.2.1⟩)
     have Z8:=Pl.Ex.size jX
     have EJ:=Pl.Ex.trans Ko jX
     refine ⟨_,rfl,EJ,?_⟩
     refine Pl.dO (v:=.bool true) (fun X=>nN (JB.uniq adg adh) X) EJ rfl rfl rfl rfl rfl rfl ?_
     refine Pl.aG EJ rfl ?_
     refine Pl.bT (part:=[.bool (decide (aN<0)),.slice aX (limbs (Int.natAbs aN)).length aY,.int .i64 bJ]) (fun X hX=>Pl.Cb.ex (Pl.Cb.ex aV (Pl.Ex.trans aM (Pl.Ex.trans aH (Pl.Ex.trans bu (Pl.Ex.trans bf (Pl.Ex.trans bI bM)))))) hX) rfl Tryz.underlying26 rfl (by kernel_rfl) EJ rfl rfl rfl rfl rfl ?_
     refine Pl.bT (part:=[.bool (decide ((Rat.num x)<0)),.slice iq (limbs (Int.natAbs (Rat.num x))).length iw,.slice mQ (limbs (Rat.den x)).length mR]) (fun X hX=>Pl.Cb.ex (Pl.Cb.ex fO (Pl.Ex.trans bu (Pl.Ex.trans bf (Pl.Ex.trans bI bM)))) hX) rfl Tryz.underlying41 rfl (by kernel_rfl) EJ rfl rfl rfl rfl rfl ?_
     refine Pl.ah rfl rfl rfl rfl rfl (fun u X=>Pl.enters Tryz.func22 (by kernel_rfl) rfl u X) ?_
     refine Calls.mono (qj _ _ x _ _ _ (Dn.mk (Un.below dS (Pl.Ex.trans aM (Pl.Ex.trans aH (Pl.Ex.trans bu (Pl.Ex.trans bf (Pl.Ex.trans bI (Pl.Ex.trans bM (Pl.Ex.trans ed (Pl.Ex.trans dK (Pl.Ex.trans dW (Pl.Ex.trans eu (Pl.Ex.trans dZ (Pl.Ex.trans fu (Pl.Ex.trans hE20 (Pl.Ex.trans fT (Pl.Ex.trans gF (Pl.Ex.trans iH (Pl.Ex.trans gY (Pl.Ex.trans iM (Pl.Ex.trans jd (Pl.Ex.trans kR jX))))))))))))))))))))) bz.can bz.val bz.sz bz.lo bz.hi)) ?_
     rintro e w29 ⟨k90,rfl,adi,kv⟩
     have arh:=(show -1≤k90∧k90≤1 from ⟨adi.1,adi.2.1⟩)
     have Z9:=Pl.Ex.size kv
     have AJ:=Pl.Ex.trans EJ kv
     refine ⟨_,rfl,AJ,?_⟩
     refine Pl.ah rfl rfl rfl rfl rfl (fun u X=>Pl.enters Tryz.func50 (by kernel_rfl) rfl u X) ?_
     refine Calls.mono (Aj _ _ x 23 7 (Qn.mk (Un.below nW (Pl.Ex.trans bu (Pl.Ex.trans bf (Pl.Ex.trans bI (Pl.Ex.trans bM (Pl.Ex.trans ed (Pl.Ex.trans dK (Pl.Ex.trans dW (Pl.Ex.trans eu (Pl.Ex.trans dZ (Pl.Ex.trans fu (Pl.Ex.trans hE20 (Pl.Ex.trans fT (Pl.Ex.trans gF (Pl.Ex.trans iH (Pl.Ex.trans gY (Pl.Ex.trans iM (Pl.Ex.trans jd (Pl.Ex.trans kR (Pl.Ex.trans jX kv)))))))))))))))))))) (Un.below xx (Pl.Ex.trans bu (Pl.Ex.trans bf (Pl.Ex.trans bI (Pl.Ex.trans bM (Pl.Ex.trans ed (Pl.Ex.trans dK (Pl.Ex.trans dW (Pl.Ex.trans eu (Pl.Ex.trans dZ (Pl.Ex.trans fu (Pl.Ex.trans hE20 (Pl.Ex.trans fT (Pl.Ex.trans gF (Pl.Ex.trans iH (Pl.Ex.trans gY (Pl.Ex.trans iM (Pl.Ex.trans jd (Pl.Ex.trans kR (Pl.Ex.trans jX kv)))))))))))))))))))) xy xz) (by omega)) ?_
     rintro e w30 ⟨k91,rfl,adj,kY⟩
     have ari:=(show -1≤k91∧k91≤1 from ⟨adj.1,adj.2.1⟩)
     have aaa:=Pl.Ex.size kY
     have Cf:=Pl.Ex.trans AJ kY
     refine ⟨_,rfl,Cf,?_⟩
     refine Pl.dO (v:=.bool true) (fun X=>nN (M0.uniq adi adj) X) Cf rfl rfl rfl rfl rfl rfl ?_
     refine Pl.aG Cf rfl ?_
     refine Pl.bT (part:=[.bool (decide (m4<0)),.slice A6 (limbs (Int.natAbs m4)).length c7,.int .i64 e5]) (fun X hX=>Pl.Cb.ex (Pl.Cb.ex rG (Pl.Ex.trans bI bM)) hX) rfl Tryz.underlying26 rfl (by kernel_rfl) Cf rfl rfl rfl rfl rfl ?_
     refine Pl.bT (part:=[.bool (decide (aN<0)),.slice aX (limbs (Int.natAbs aN)).length aY,.int .i64 bJ]) (fun X hX=>Pl.Cb.ex (Pl.Cb.ex aV (Pl.Ex.trans aM (Pl.Ex.trans aH (Pl.Ex.trans bu (Pl.Ex.trans bf (Pl.Ex.trans bI bM)))))) hX) rfl Tryz.underlying26 rfl (by kernel_rfl) Cf rfl rfl rfl rfl rfl ?_
     refine Pl.ah rfl rfl rfl rfl rfl (fun u X=>Pl.enters Tryz.func17 (by kernel_rfl) rfl u X) ?_
     refine Calls.mono (dR _ _ _ (Dy.cut (kK%5) x (max (-bJ) 0)) x _ _ _ _ _ _ (Dn.mk (Un.below u8 (Pl.Ex.trans bf (Pl.Ex.trans bI (Pl.Ex.trans bM (Pl.Ex.trans ed (Pl.Ex.trans dK (Pl.Ex.trans dW (Pl.Ex.trans eu (Pl.Ex.trans dZ (Pl.Ex.trans fu (Pl.Ex.trans hE20 (Pl.Ex.trans fT (Pl.Ex.trans gF (Pl.Ex.trans iH (Pl.Ex.trans gY (Pl.Ex.trans iM (Pl.Ex.trans jd (Pl.Ex.trans kR (Pl.Ex.trans jX (Pl.Ex.trans kv kY)))))))))))))))))))) d9.can d9.val d9.sz d9.lo d9.hi) (Dn.mk (Un.below dS (Pl.Ex.trans aM (Pl.Ex.trans aH (Pl.Ex.trans bu (Pl.Ex.trans bf (Pl.Ex.trans bI (Pl.Ex.trans bM (Pl.Ex.trans ed (Pl.Ex.trans dK (Pl.Ex.trans dW (Pl.Ex.trans eu (Pl.Ex.trans dZ (Pl.Ex.trans fu (Pl.Ex.trans hE20 (Pl.Ex.trans fT (Pl.Ex.trans gF (Pl.Ex.trans iH (Pl.Ex.trans gY (Pl.Ex.trans iM (Pl.Ex.trans jd (Pl.Ex.trans kR (Pl.Ex.trans jX (Pl.Ex.trans kv kY))))))))))))))))))))))) bz.can bz.val bz.sz bz.lo bz.hi) (by decide) (by decide)) ?_
     rintro e w31 ⟨rfl,pK⟩
     rw [decide_eq_true (show (Dy.cut (kK%5) x (max (-bJ) 0))=x from (TB bz _ _ (by omega)))]
     have aab:=Pl.Ex.size pK
     have Ei:=Pl.Ex.trans Cf pK
     refine ⟨_,rfl,Ei,?_⟩
     refine Pl.aG Ei rfl ?_
     refine Pl.dO (v:=.bool true) (fun X=>Pl.gM (Pl.e_t (by omega)) X) Ei rfl rfl rfl rfl rfl rfl ?_
     refine Pl.aG Ei rfl ?_
     refine Pl.bT (part:=[.bool (decide (m12<0)),.slice qK (limbs (Int.natAbs m12)).length c15,.int .i64 e13]) (fun X hX=>Pl.Cb.ex Ak hX) rfl Tryz.underlying26 rfl (by kernel_rfl) Ei rfl rfl rfl rfl rfl ?_
     refine Pl.bT (part:=[.bool (decide (aN<0)),.slice aX (limbs (Int.natAbs aN)).length aY,.int .i64 bJ]) (fun X hX=>Pl.Cb.ex (Pl.Cb.ex aV (Pl.Ex.trans aM (Pl.Ex.trans aH (Pl.Ex.trans bu (Pl.Ex.trans bf (Pl.Ex.trans bI bM)))))) hX) rfl Tryz.underlying26 rfl (by kernel_rfl) Ei rfl rfl rfl rfl rfl ?_
     refine Pl.ah rfl rfl rfl rfl rfl (fun u X=>Pl.enters Tryz.func17 (by kernel_rfl) rfl u X) ?_
     refine Calls.mono (dR _ _ _ (Dy.cut (kK%5) x (max (-bJ) 0)) x _ _ _ _ _ _ (Dn.mk (Un.below u16 (Pl.Ex.trans bM (Pl.Ex.trans ed (Pl.Ex.trans dK (Pl.Ex.trans dW (Pl.Ex.trans eu (Pl.Ex.trans dZ (Pl.Ex.trans fu (Pl.Ex.trans hE20 (Pl.Ex.trans fT (Pl.Ex.trans gF (Pl.Ex.trans iH (Pl.Ex.trans gY (Pl.Ex.trans iM (Pl.Ex.trans jd (Pl.Ex.trans kR (Pl.Ex.trans jX (Pl.Ex.trans kv (Pl.Ex.trans kY pK))))))))))))))))))) kG.can kG.val kG.sz kG.lo kG.hi) (Dn.mk (Un.below dS (Pl.Ex.trans aM (Pl.Ex.trans aH (Pl.Ex.trans bu (Pl.Ex.trans bf (Pl.Ex.trans bI (Pl.Ex.trans bM (Pl.Ex.trans ed (Pl.Ex.trans dK (Pl.Ex.trans dW (Pl.Ex.trans eu (Pl.Ex.trans dZ (Pl.Ex.trans fu (Pl.Ex.trans hE20 (Pl.Ex.trans fT (Pl.Ex.trans gF (Pl.Ex.trans iH (Pl.Ex.trans gY (Pl.Ex.trans iM (Pl.Ex.trans jd (Pl.Ex.trans kR (Pl.Ex.trans jX (Pl.Ex.trans kv (Pl.Ex.trans kY pK)))))))))))))))))))))))) bz.can bz.val bz.sz bz.lo bz.hi) (by decide) (by decide)) ?_
     rintro e w32 ⟨rfl,ng⟩
     rw [decide_eq_true (show (Dy.cut (kK%5) x (max (-bJ) 0))=x from (TB bz _ _ (by omega)))]
     have aac:=Pl.Ex.size ng
     have qO:=Pl.Ex.trans Ei ng
     refine ⟨_,rfl,qO,?_⟩
     refine Pl.aG qO rfl ?_
     refine Pl.dO (v:=.bool true) (fun X=>Pl.gM (Pl.e_t (by omega)) X) qO rfl rfl rfl rfl rfl rfl ?_
     refine Pl.aG qO rfl ?_
     refine Pl.af ?_
     repeat refine Pl.ay ?_
     exact Pl.dU rfl rfl  (⟨rfl,(Pl.Ex.trans hE1 (Pl.Ex.trans hE2 (Pl.Ex.trans aO (Pl.Ex.trans aR (Pl.Ex.trans aP (Pl.Ex.trans aM (Pl.Ex.trans aH (Pl.Ex.trans bu (Pl.Ex.trans bf (Pl.Ex.trans bI (Pl.Ex.trans bM (Pl.Ex.trans ed (Pl.Ex.trans dK (Pl.Ex.trans dW (Pl.Ex.trans eu (Pl.Ex.trans dZ (Pl.Ex.trans fu (Pl.Ex.trans hE20 (Pl.Ex.trans fT (Pl.Ex.trans gF (Pl.Ex.trans iH (Pl.Ex.trans gY (Pl.Ex.trans iM (Pl.Ex.trans jd (Pl.Ex.trans kR (Pl.Ex.trans jX (Pl.Ex.trans kv (Pl.Ex.trans kY (Pl.Ex.trans pK ng)))))))))))))))))))))))))))))⟩)
   refine Pl.fP 3 55 (fun l' w'=>∃ (iq:Option Addr) (iw:Nat) (mQ:Option Addr) (mR:Nat) (fH:Nat) (mU:Nat),Pl.Ex w6 w'∧(Un w' (.slice iq (limbs (Int.natAbs (Rat.num x))).length iw) (Int.natAbs (Rat.num x)))∧(Un w' (.slice mQ (limbs (Rat.den x)).length mR) (Rat.den x))∧(Sz (Rat.num x) 23)∧(Sn (Rat.den x) 7)∧(Pl.Cb w' fH 41 [.bool false,.slice none 0 0,.slice none 0 0])∧(w6.heap.size≤fH)∧(Pl.Cb w' mU 41 [.bool false,.slice none 0 0,.slice none 0 0])∧(w6.heap.size≤mU)∧(fH≠mU)∧l'=[(2,.int .u8 ((kK:Nat):Int)),(6,.bool false),(7,.bool true),(8,.pointer (some ⟨aK,0,none⟩)),(9,.pointer (some ⟨bQ,0,none⟩)),(10,.pointer (some ⟨fH,0,none⟩)),(11,.pointer (some ⟨mU,0,none⟩)),(22,.agg #[.bool (decide ((Rat.num x)<0)),.slice iq (limbs (Int.natAbs (Rat.num x))).length iw,.slice mQ (limbs (Rat.den x)).length mR]),(23,.agg #[.bool (decide (aT<0)),.slice dB (limbs (Int.natAbs aT)).length dD,.int .i64 dA])]) ?_ fun zZ=>?_
   · rintro _ w7 ⟨iq,iw,mQ,mR,fH,mU,aH,nW,xx,xy,xz,fO,xL,qH,Kl,Km,rfl⟩
     have iU:=Pl.Ex.size aH
     have bE:=Pl.Ex.trans bS aH
     have uO:=Pl.Cb.lt fO
     have FY:=Pl.Cb.lt qH
     refine Pl.aZ [(false,3,55),(false,6,63),(false,7,127)] 255 0 Pl.az (by kernel_rfl) (by kernel_rfl) (by kernel_rfl) ?_
     refine Pl.ah rfl rfl rfl rfl rfl (fun u X=>Pl.enters Tryz.func35 (by kernel_rfl) rfl u X) ?_
     refine Calls.mono (nu _ _ y 8 15 7 _ _ (Dn.mk (Un.below gG (Pl.Ex.trans aM aH)) bH.can bH.val bH.sz bH.lo bH.hi) (by decide) (by decide) (by decide) (by decide) (by decide) (by decide)) ?_
     rintro e w8 ⟨v3,rfl,hv3,bu⟩
     obtain ⟨A4,c5,A6,c7,rfl,u8,u9,vH,vI⟩:=hv3
     have mh:=Pl.Ex.size bu
     have bD:=Pl.Ex.trans bE bu
     refine ⟨_,rfl,bD,?_⟩
     refine Pl.bg (new:=[.bool (decide ((Rat.num x)<0)),.slice iq (limbs (Int.natAbs (Rat.num x))).length iw,.slice mQ (limbs (Rat.den x)).length mR]) (Pl.Cb.ex fO bu) (by kernel_rfl) rfl (by simp [Value.oneCell']) rfl rfl rfl rfl rfl rfl (fun Y hY=>Pl.Ex.xs bD hY (by omega)) ?_
     intro w9 gH om
     have dh:=Pl.Ex.xs (Pl.Ex.trans aH bu) gH (by omega)
     have pG:=Pl.Xs.size gH
     have bK:=Pl.Ex.xs bD gH (by omega)
     have l5:=Pl.Cb.xs (Pl.Cb.ex qH bu) gH (by simp;omega)
     refine Pl.bg (new:=[.bool (decide ((Rat.num y)<0)),.slice A4 (limbs (Int.natAbs (Rat.num y))).length c5,.slice A6 (limbs (Rat.den y)).length c7]) l5 (by kernel_rfl) rfl (by simp [Value.oneCell']) rfl rfl rfl rfl rfl rfl (fun Y hY=>Pl.Ex.xs bK hY (by omega)) ?_
     intro qD eU xM
     have bf:=Pl.Ex.xs dh eU (by omega)
     have mD:=Pl.Xs.size eU
     have gK:=Pl.Ex.xs bK eU (by omega)
     have rQ:=Pl.Cb.xs om eU (by simp;omega)
     refine Pl.af ?_
     have k11:=Un.xs (Un.below nW bu) gH (Pl.Cb.ex fO bu) (by simp)
     have k12:=Un.xs k11 eU l5 (by simp)
     have k13:=Un.xs (Un.below xx bu) gH (Pl.Cb.ex fO bu) (by simp)
     have k14:=Un.xs k13 eU l5 (by simp)
     have k15:=Un.xs u8 gH (Pl.Cb.ex fO bu) (by simp)
     have k16:=Un.xs k15 eU l5 (by simp)
     have k17:=Un.xs u9 gH (Pl.Cb.ex fO bu) (by simp)
     have k18:=Un.xs k17 eU l5 (by simp)
     refine Pl.aW [(2,.int .u8 ((kK:Nat):Int)),(6,.bool false),(7,.bool true),(8,.pointer (some ⟨aK,0,none⟩)),(9,.pointer (some ⟨bQ,0,none⟩)),(10,.pointer (some ⟨fH,0,none⟩)),(11,.pointer (some ⟨mU,0,none⟩))] (Pl.aa rfl (Pl.aa rfl (Pl.aa rfl (Pl.aa rfl (Pl.aa rfl (Pl.aa rfl (Pl.aa rfl Pl.aA))))))) ?_
     exact tF _ _ ⟨iq,iw,mQ,mR,A4,c5,A6,c7,fH,mU,bf,k12,k14,xy,xz,k16,k18,vH,vI,rQ,(by omega),xM,(by omega),(by omega),rfl⟩
   refine Pl.fP 3 47 (fun l' w'=>∃ (iq:Option Addr) (iw:Nat) (mQ:Option Addr) (mR:Nat) (nO:Option Addr) (nP:Nat) (wZ:Option Addr) (xe:Nat) (fH:Nat),Pl.Ex w6 w'∧(Un w' (.slice iq (limbs (Int.natAbs (Rat.num x))).length iw) (Int.natAbs (Rat.num x)))∧(Un w' (.slice mQ (limbs (Rat.den x)).length mR) (Rat.den x))∧(Sz (Rat.num x) 23)∧(Sn (Rat.den x) 7)∧(Un w' (.slice nO (limbs (Int.natAbs (Rat.num y))).length nP) (Int.natAbs (Rat.num y)))∧(Un w' (.slice wZ (limbs (Rat.den y)).length xe) (Rat.den y))∧(Sz (Rat.num y) 23)∧(Sn (Rat.den y) 7)∧(Pl.Cb w' fH 41 [.bool false,.slice none 0 0,.slice none 0 0])∧(w6.heap.size≤fH)∧l'=[(2,.int .u8 ((kK:Nat):Int)),(6,.bool false),(7,.bool true),(8,.pointer (some ⟨aK,0,none⟩)),(9,.pointer (some ⟨bQ,0,none⟩)),(11,.pointer (some ⟨fH,0,none⟩)),(22,.agg #[.bool (decide ((Rat.num x)<0)),.slice iq (limbs (Int.natAbs (Rat.num x))).length iw,.slice mQ (limbs (Rat.den x)).length mR]),(24,.agg #[.bool (decide ((Rat.num y)<0)),.slice nO (limbs (Int.natAbs (Rat.num y))).length nP,.slice wZ (limbs (Rat.den y)).length xe])]) ?_ fun z8=>?_
   · rintro _ w7 ⟨iq,iw,mQ,mR,nO,nP,wZ,xe,fH,aH,nW,xx,xy,xz,yg,IE,IG,II,fO,xL,rfl⟩
     have iU:=Pl.Ex.size aH
     have bE:=Pl.Ex.trans bS aH
     have uO:=Pl.Cb.lt fO
     refine Pl.aZ [(false,4,47),(false,6,63),(false,7,127)] 255 0 Pl.az (by kernel_rfl) (by kernel_rfl) (by kernel_rfl) ?_
     refine Pl.aU (z:=.agg #[.bool false,.slice none 0 0,.slice none 0 0]) (by kernel_rfl) rfl rfl rfl rfl (fun Y hY=>Pl.Ex.trans bE hY) ?_
     intro N3 w8 bu jP aL
     have iJ:=Pl.Cb.lt aL
     have mh:=Pl.Ex.size bu
     replace aL:Pl.Cb w8 N3 41 [.bool false,.slice none 0 0,.slice none 0 0]:=aL
     have bD:=Pl.Ex.trans bE bu
     refine Pl.bg (new:=[.bool (decide ((Rat.num x)<0)),.slice iq (limbs (Int.natAbs (Rat.num x))).length iw,.slice mQ (limbs (Rat.den x)).length mR]) aL (by kernel_rfl) rfl (by simp [Value.oneCell']) rfl rfl rfl rfl rfl rfl (fun Y hY=>Pl.Ex.xs bD hY (by omega)) ?_
     intro w9 gH dX
     have dh:=Pl.Ex.xs bu gH (by omega)
     have pG:=Pl.Xs.size gH
     have bK:=Pl.Ex.xs bD gH (by omega)
     refine Pl.bg (new:=[.bool (decide ((Rat.num y)<0)),.slice nO (limbs (Int.natAbs (Rat.num y))).length nP,.slice wZ (limbs (Rat.den y)).length xe]) (Pl.Cb.ex fO dh) (by kernel_rfl) rfl (by simp [Value.oneCell']) rfl rfl rfl rfl rfl rfl (fun Y hY=>Pl.Ex.xs bK hY (by omega)) ?_
     intro qD eU om
     have bf:=Pl.Ex.xs (Pl.Ex.trans aH dh) eU (by omega)
     have mD:=Pl.Xs.size eU
     have gK:=Pl.Ex.xs bK eU (by omega)
     have qR:=Pl.Cb.xs dX eU (by simp;omega)
     refine Pl.af ?_
     have k4:=Un.xs (Un.below nW dh) eU (Pl.Cb.ex fO dh) (by simp)
     have k5:=Un.xs (Un.below xx dh) eU (Pl.Cb.ex fO dh) (by simp)
     have k6:=Un.xs (Un.below yg dh) eU (Pl.Cb.ex fO dh) (by simp)
     have k7:=Un.xs (Un.below IE dh) eU (Pl.Cb.ex fO dh) (by simp)
     refine Pl.aW [(2,.int .u8 ((kK:Nat):Int)),(6,.bool false),(7,.bool true),(8,.pointer (some ⟨aK,0,none⟩)),(9,.pointer (some ⟨bQ,0,none⟩)),(10,.pointer (some ⟨N3,0,none⟩)),(11,.pointer (some ⟨fH,0,none⟩))] (Pl.aa rfl (Pl.aa rfl (Pl.aa rfl (Pl.aa rfl (Pl.aa rfl (Pl.aa rfl (Pl.aa rfl Pl.aA))))))) ?_
     exact tF _ _ ⟨iq,iw,mQ,mR,nO,nP,wZ,xe,N3,fH,bf,k4,k5,xy,xz,k6,k7,IG,II,qR,(by omega),om,(by omega),(by omega),rfl⟩
   refine Pl.fP 3 31 (fun l' w'=>∃ (iq:Option Addr) (iw:Nat) (mQ:Option Addr) (mR:Nat) (nO:Option Addr) (nP:Nat) (wZ:Option Addr) (xe:Nat) (fH:Nat),Pl.Ex w6 w'∧(Un w' (.slice iq (limbs (Int.natAbs (Rat.num x))).length iw) (Int.natAbs (Rat.num x)))∧(Un w' (.slice mQ (limbs (Rat.den x)).length mR) (Rat.den x))∧(Sz (Rat.num x) 23)∧(Sn (Rat.den x) 7)∧(Un w' (.slice nO (limbs (Int.natAbs (Rat.num y))).length nP) (Int.natAbs (Rat.num y)))∧(Un w' (.slice wZ (limbs (Rat.den y)).length xe) (Rat.den y))∧(Sz (Rat.num y) 23)∧(Sn (Rat.den y) 7)∧(Pl.Cb w' fH 41 [.bool false,.slice none 0 0,.slice none 0 0])∧(w6.heap.size≤fH)∧l'=[(2,.int .u8 ((kK:Nat):Int)),(6,.bool false),(7,.bool true),(8,.pointer (some ⟨aK,0,none⟩)),(9,.pointer (some ⟨bQ,0,none⟩)),(10,.pointer (some ⟨fH,0,none⟩)),(22,.agg #[.bool (decide ((Rat.num x)<0)),.slice iq (limbs (Int.natAbs (Rat.num x))).length iw,.slice mQ (limbs (Rat.den x)).length mR]),(24,.agg #[.bool (decide ((Rat.num y)<0)),.slice nO (limbs (Int.natAbs (Rat.num y))).length nP,.slice wZ (limbs (Rat.den y)).length xe])]) ?_ fun Ac=>?_
   · rintro _ w7 ⟨iq,iw,mQ,mR,nO,nP,wZ,xe,fH,aH,nW,xx,xy,xz,yg,IE,IG,II,fO,xL,rfl⟩
     have iU:=Pl.Ex.size aH
     have bE:=Pl.Ex.trans bS aH
     have uO:=Pl.Cb.lt fO
     refine Pl.aZ [(false,5,31),(false,6,63),(false,7,127)] 255 0 Pl.az (by kernel_rfl) (by kernel_rfl) (by kernel_rfl) ?_
     refine Pl.aU (z:=.agg #[.bool false,.slice none 0 0,.slice none 0 0]) (by kernel_rfl) rfl rfl rfl rfl (fun Y hY=>Pl.Ex.trans bE hY) ?_
     intro N3 w8 bu jP aL
     have iJ:=Pl.Cb.lt aL
     have mh:=Pl.Ex.size bu
     replace aL:Pl.Cb w8 N3 41 [.bool false,.slice none 0 0,.slice none 0 0]:=aL
     have bD:=Pl.Ex.trans bE bu
     refine Pl.bg (new:=[.bool (decide ((Rat.num x)<0)),.slice iq (limbs (Int.natAbs (Rat.num x))).length iw,.slice mQ (limbs (Rat.den x)).length mR]) (Pl.Cb.ex fO bu) (by kernel_rfl) rfl (by simp [Value.oneCell']) rfl rfl rfl rfl rfl rfl (fun Y hY=>Pl.Ex.xs bD hY (by omega)) ?_
     intro w9 gH om
     have dh:=Pl.Ex.xs (Pl.Ex.trans aH bu) gH (by omega)
     have pG:=Pl.Xs.size gH
     have bK:=Pl.Ex.xs bD gH (by omega)
     have dX:=Pl.Cb.xs aL gH (by simp;omega)
     refine Pl.bg (new:=[.bool (decide ((Rat.num y)<0)),.slice nO (limbs (Int.natAbs (Rat.num y))).length nP,.slice wZ (limbs (Rat.den y)).length xe]) dX (by kernel_rfl) rfl (by simp [Value.oneCell']) rfl rfl rfl rfl rfl rfl (fun Y hY=>Pl.Ex.xs bK hY (by omega)) ?_
     intro qD eU qR
     have bf:=Pl.Ex.xs dh eU (by omega)
     have mD:=Pl.Xs.size eU
     have gK:=Pl.Ex.xs bK eU (by omega)
     have rQ:=Pl.Cb.xs om eU (by simp;omega)
     refine Pl.af ?_
     have k4:=Un.xs (Un.below nW bu) gH (Pl.Cb.ex fO bu) (by simp)
     have k5:=Un.xs k4 eU dX (by simp)
     have k6:=Un.xs (Un.below xx bu) gH (Pl.Cb.ex fO bu) (by simp)
     have k7:=Un.xs k6 eU dX (by simp)
     have k8:=Un.xs (Un.below yg bu) gH (Pl.Cb.ex fO bu) (by simp)
     have k9:=Un.xs k8 eU dX (by simp)
     have k10:=Un.xs (Un.below IE bu) gH (Pl.Cb.ex fO bu) (by simp)
     have k11:=Un.xs k10 eU dX (by simp)
     refine Pl.aW [(2,.int .u8 ((kK:Nat):Int)),(6,.bool false),(7,.bool true),(8,.pointer (some ⟨aK,0,none⟩)),(9,.pointer (some ⟨bQ,0,none⟩)),(10,.pointer (some ⟨fH,0,none⟩)),(11,.pointer (some ⟨N3,0,none⟩))] (Pl.aa rfl (Pl.aa rfl (Pl.aa rfl (Pl.aa rfl (Pl.aa rfl (Pl.aa rfl (Pl.aa rfl Pl.aA))))))) ?_
     exact tF _ _ ⟨iq,iw,mQ,mR,nO,nP,wZ,xe,fH,N3,bf,k5,k7,xy,xz,k9,k11,IG,II,rQ,(by omega),qR,(by omega),(by omega),rfl⟩
   refine Pl.fP 4 53 (fun l' w'=>∃ (fH:Nat) (mU:Nat),Pl.Ex w6 w'∧(Pl.Cb w' fH 41 [.bool false,.slice none 0 0,.slice none 0 0])∧(w6.heap.size≤fH)∧(Pl.Cb w' mU 41 [.bool false,.slice none 0 0,.slice none 0 0])∧(w6.heap.size≤mU)∧(fH≠mU)∧l'=[(2,.int .u8 ((kK:Nat):Int)),(6,.bool false),(7,.bool true),(8,.pointer (some ⟨aK,0,none⟩)),(9,.pointer (some ⟨bQ,0,none⟩)),(10,.pointer (some ⟨fH,0,none⟩)),(11,.pointer (some ⟨mU,0,none⟩)),(21,.agg #[.bool (decide (aN<0)),.slice aX (limbs (Int.natAbs aN)).length aY,.int .i64 bJ]),(23,.agg #[.bool (decide (aT<0)),.slice dB (limbs (Int.natAbs aT)).length dD,.int .i64 dA])]) ?_ fun Ae=>?_
   · rintro _ w7 ⟨fH,mU,aH,fO,xL,qH,Kl,Km,rfl⟩
     have iU:=Pl.Ex.size aH
     have bE:=Pl.Ex.trans bS aH
     have uO:=Pl.Cb.lt fO
     have FY:=Pl.Cb.lt qH
     refine Pl.aZ [(false,1,53),(false,3,55),(false,6,63),(false,7,127)] 255 0 Pl.az (by kernel_rfl) (by kernel_rfl) (by kernel_rfl) ?_
     refine Pl.ah rfl rfl rfl rfl rfl (fun u X=>Pl.enters Tryz.func35 (by kernel_rfl) rfl u X) ?_
     refine Calls.mono (nu _ _ x 8 15 7 _ _ (Dn.mk (Un.below dS (Pl.Ex.trans aM aH)) bz.can bz.val bz.sz bz.lo bz.hi) (by decide) (by decide) (by decide) (by decide) (by decide) (by decide)) ?_
     rintro e w8 ⟨v3,rfl,hv3,bu⟩
     obtain ⟨A4,c5,A6,c7,rfl,u8,u9,vH,vI⟩:=hv3
     have mh:=Pl.Ex.size bu
     have bD:=Pl.Ex.trans bE bu
     refine ⟨_,rfl,bD,?_⟩
     refine Pl.ah rfl rfl rfl rfl rfl (fun u X=>Pl.enters Tryz.func35 (by kernel_rfl) rfl u X) ?_
     refine Calls.mono (nu _ _ y 8 15 7 _ _ (Dn.mk (Un.below gG (Pl.Ex.trans aM (Pl.Ex.trans aH bu))) bH.can bH.val bH.sz bH.lo bH.hi) (by decide) (by decide) (by decide) (by decide) (by decide) (by decide)) ?_
     rintro e w9 ⟨v11,rfl,kL,dh⟩
     obtain ⟨CK,c13,qK,c15,rfl,u16,xA,xN,yj⟩:=kL
     have pG:=Pl.Ex.size dh
     have bK:=Pl.Ex.trans bD dh
     refine ⟨_,rfl,bK,?_⟩
     refine Pl.bg (new:=[.bool (decide ((Rat.num x)<0)),.slice A4 (limbs (Int.natAbs (Rat.num x))).length c5,.slice A6 (limbs (Rat.den x)).length c7]) (Pl.Cb.ex fO (Pl.Ex.trans bu dh)) (by kernel_rfl) rfl (by simp [Value.oneCell']) rfl rfl rfl rfl rfl rfl (fun Y hY=>Pl.Ex.xs bK hY (by omega)) ?_
     intro qD eU om
     have bf:=Pl.Ex.xs (Pl.Ex.trans aH (Pl.Ex.trans bu dh)) eU (by omega)
     have mD:=Pl.Xs.size eU
     have gK:=Pl.Ex.xs bK eU (by omega)
     have l5:=Pl.Cb.xs (Pl.Cb.ex qH (Pl.Ex.trans bu dh)) eU (by simp;omega)
     refine Pl.bg (new:=[.bool (decide ((Rat.num y)<0)),.slice CK (limbs (Int.natAbs (Rat.num y))).length c13,.slice qK (limbs (Rat.den y)).length c15]) l5 (by kernel_rfl) rfl (by simp [Value.oneCell']) rfl rfl rfl rfl rfl rfl (fun Y hY=>Pl.Ex.xs gK hY (by omega)) ?_
     intro uV jI xM
     have bI:=Pl.Ex.xs bf jI (by omega)
     have qx:=Pl.Xs.size jI
     have iT:=Pl.Ex.xs gK jI (by omega)
     have rQ:=Pl.Cb.xs om jI (by simp;omega)
     refine Pl.af ?_
     have k19:=Un.xs (Un.below u8 dh) eU (Pl.Cb.ex fO (Pl.Ex.trans bu dh)) (by simp)
     have k20:=Un.xs k19 jI l5 (by simp)
     have k21:=Un.xs (Un.below u9 dh) eU (Pl.Cb.ex fO (Pl.Ex.trans bu dh)) (by simp)
     have k22:=Un.xs k21 jI l5 (by simp)
     have k23:=Un.xs u16 eU (Pl.Cb.ex fO (Pl.Ex.trans bu dh)) (by simp)
     have k24:=Un.xs k23 jI l5 (by simp)
     have k25:=Un.xs xA eU (Pl.Cb.ex fO (Pl.Ex.trans bu dh)) (by simp)
     have k26:=Un.xs k25 jI l5 (by simp)
     refine Pl.aW [(2,.int .u8 ((kK:Nat):Int)),(6,.bool false),(7,.bool true),(8,.pointer (some ⟨aK,0,none⟩)),(9,.pointer (some ⟨bQ,0,none⟩)),(10,.pointer (some ⟨fH,0,none⟩)),(11,.pointer (some ⟨mU,0,none⟩))] (Pl.aa rfl (Pl.aa rfl (Pl.aa rfl (Pl.aa rfl (Pl.aa rfl (Pl.aa rfl (Pl.aa rfl Pl.aA))))))) ?_
     exact tF _ _ ⟨A4,c5,A6,c7,CK,c13,qK,c15,fH,mU,bI,k20,k22,vH,vI,k24,k26,xN,yj,rQ,(by omega),xM,(by omega),(by omega),rfl⟩
   refine Pl.fP 4 39 (fun l' w'=>∃ (iq:Option Addr) (iw:Nat) (mQ:Option Addr) (mR:Nat) (fH:Nat),Pl.Ex w6 w'∧(Un w' (.slice iq (limbs (Int.natAbs (Rat.num x))).length iw) (Int.natAbs (Rat.num x)))∧(Un w' (.slice mQ (limbs (Rat.den x)).length mR) (Rat.den x))∧(Sz (Rat.num x) 23)∧(Sn (Rat.den x) 7)∧(Pl.Cb w' fH 41 [.bool false,.slice none 0 0,.slice none 0 0])∧(w6.heap.size≤fH)∧l'=[(2,.int .u8 ((kK:Nat):Int)),(6,.bool false),(7,.bool true),(8,.pointer (some ⟨aK,0,none⟩)),(9,.pointer (some ⟨bQ,0,none⟩)),(11,.pointer (some ⟨fH,0,none⟩)),(22,.agg #[.bool (decide ((Rat.num x)<0)),.slice iq (limbs (Int.natAbs (Rat.num x))).length iw,.slice mQ (limbs (Rat.den x)).length mR]),(23,.agg #[.bool (decide (aT<0)),.slice dB (limbs (Int.natAbs aT)).length dD,.int .i64 dA])]) ?_ fun Ah=>?_
   · rintro _ w7 ⟨iq,iw,mQ,mR,fH,aH,nW,xx,xy,xz,fO,xL,rfl⟩
     have iU:=Pl.Ex.size aH
     have bE:=Pl.Ex.trans bS aH
     have uO:=Pl.Cb.lt fO
     refine Pl.cB [3,4] 3 (by kernel_rfl) (by kernel_rfl) (by kernel_rfl) (Pl.aj ?_ (Pl.aj ?_ Pl.aJ))
     · refine Pl.ah rfl rfl rfl rfl rfl (fun u X=>Pl.enters Tryz.func35 (by kernel_rfl) rfl u X) ?_
       refine Calls.mono (nu _ _ y 8 15 7 _ _ (Dn.mk (Un.below gG (Pl.Ex.trans aM aH)) bH.can bH.val bH.sz bH.lo bH.hi) (by decide) (by decide) (by decide) (by decide) (by decide) (by decide)) ?_
       rintro e w8 ⟨v3,rfl,hv3,bu⟩
       obtain ⟨A4,c5,A6,c7,rfl,u8,u9,vH,vI⟩:=hv3
       have mh:=Pl.Ex.size bu
       have bD:=Pl.Ex.trans bE bu
       refine ⟨_,rfl,bD,?_⟩
       refine Pl.af ?_
       refine Pl.aW [(2,.int .u8 ((kK:Nat):Int)),(6,.bool false),(7,.bool true),(8,.pointer (some ⟨aK,0,none⟩)),(9,.pointer (some ⟨bQ,0,none⟩)),(11,.pointer (some ⟨fH,0,none⟩)),(22,.agg #[.bool (decide ((Rat.num x)<0)),.slice iq (limbs (Int.natAbs (Rat.num x))).length iw,.slice mQ (limbs (Rat.den x)).length mR]),(24,.agg #[.bool (decide ((Rat.num y)<0)),.slice A4 (limbs (Int.natAbs (Rat.num y))).length c5,.slice A6 (limbs (Rat.den y)).length c7])] (Pl.aa rfl (Pl.aa rfl (Pl.aa rfl (Pl.aa rfl (Pl.aa rfl (Pl.aa rfl (Pl.aa rfl (Pl.aa rfl Pl.aA)))))))) ?_
       exact z8 _ _ ⟨iq,iw,mQ,mR,A4,c5,A6,c7,fH,(Pl.Ex.trans aH bu),(Un.below nW bu),(Un.below xx bu),xy,xz,u8,u9,vH,vI,(Pl.Cb.ex fO bu),(by omega),rfl⟩
     · refine Pl.aU (z:=.agg #[.bool false,.slice none 0 0,.slice none 0 0]) (by kernel_rfl) rfl rfl rfl rfl (fun Y hY=>Pl.Ex.trans bE hY) ?_
       intro N3 w8 bu jP aL
       have iJ:=Pl.Cb.lt aL
       have mh:=Pl.Ex.size bu
       replace aL:Pl.Cb w8 N3 41 [.bool false,.slice none 0 0,.slice none 0 0]:=aL
       have bD:=Pl.Ex.trans bE bu
       refine Pl.af ?_
       refine Pl.aW [(2,.int .u8 ((kK:Nat):Int)),(6,.bool false),(7,.bool true),(8,.pointer (some ⟨aK,0,none⟩)),(9,.pointer (some ⟨bQ,0,none⟩)),(10,.pointer (some ⟨N3,0,none⟩)),(11,.pointer (some ⟨fH,0,none⟩)),(22,.agg #[.bool (decide ((Rat.num x)<0)),.slice iq (limbs (Int.natAbs (Rat.num x))).length iw,.slice mQ (limbs (Rat.den x)).length mR]),(23,.agg #[.bool (decide (aT<0)),.slice dB (limbs (Int.natAbs aT)).length dD,.int .i64 dA])] (Pl.aa rfl (Pl.aa rfl (Pl.aa rfl (Pl.aa rfl (Pl.aa rfl (Pl.aa rfl (Pl.aa rfl (Pl.aa rfl (Pl.aa rfl Pl.aA))))))))) ?_
       exact zZ _ _ ⟨iq,iw,mQ,mR,N3,fH,(Pl.Ex.trans aH bu),(Un.below nW bu),(Un.below xx bu),xy,xz,aL,(by omega),(Pl.Cb.ex fO bu),(by omega),(by omega),rfl⟩
   refine Pl.fP 4 23 (fun l' w'=>∃ (iq:Option Addr) (iw:Nat) (mQ:Option Addr) (mR:Nat) (fH:Nat),Pl.Ex w6 w'∧(Un w' (.slice iq (limbs (Int.natAbs (Rat.num x))).length iw) (Int.natAbs (Rat.num x)))∧(Un w' (.slice mQ (limbs (Rat.den x)).length mR) (Rat.den x))∧(Sz (Rat.num x) 23)∧(Sn (Rat.den x) 7)∧(Pl.Cb w' fH 41 [.bool false,.slice none 0 0,.slice none 0 0])∧(w6.heap.size≤fH)∧l'=[(2,.int .u8 ((kK:Nat):Int)),(6,.bool false),(7,.bool true),(8,.pointer (some ⟨aK,0,none⟩)),(9,.pointer (some ⟨bQ,0,none⟩)),(10,.pointer (some ⟨fH,0,none⟩)),(22,.agg #[.bool (decide ((Rat.num x)<0)),.slice iq (limbs (Int.natAbs (Rat.num x))).length iw,.slice mQ (limbs (Rat.den x)).length mR]),(23,.agg #[.bool (decide (aT<0)),.slice dB (limbs (Int.natAbs aT)).length dD,.int .i64 dA])]) ?_ fun Ai=>?_
   · rintro _ w7 ⟨iq,iw,mQ,mR,fH,aH,nW,xx,xy,xz,fO,xL,rfl⟩
     have iU:=Pl.Ex.size aH
     have bE:=Pl.Ex.trans bS aH
     have uO:=Pl.Cb.lt fO
     refine Pl.cB [3,5] 3 (by kernel_rfl) (by kernel_rfl) (by kernel_rfl) (Pl.aj ?_ (Pl.aj ?_ Pl.aJ))
     · refine Pl.ah rfl rfl rfl rfl rfl (fun u X=>Pl.enters Tryz.func35 (by kernel_rfl) rfl u X) ?_
       refine Calls.mono (nu _ _ y 8 15 7 _ _ (Dn.mk (Un.below gG (Pl.Ex.trans aM aH)) bH.can bH.val bH.sz bH.lo bH.hi) (by decide) (by decide) (by decide) (by decide) (by decide) (by decide)) ?_
       rintro e w8 ⟨v3,rfl,hv3,bu⟩
       obtain ⟨A4,c5,A6,c7,rfl,u8,u9,vH,vI⟩:=hv3
       have mh:=Pl.Ex.size bu
       have bD:=Pl.Ex.trans bE bu
       refine ⟨_,rfl,bD,?_⟩
       refine Pl.af ?_
       refine Pl.aW [(2,.int .u8 ((kK:Nat):Int)),(6,.bool false),(7,.bool true),(8,.pointer (some ⟨aK,0,none⟩)),(9,.pointer (some ⟨bQ,0,none⟩)),(10,.pointer (some ⟨fH,0,none⟩)),(22,.agg #[.bool (decide ((Rat.num x)<0)),.slice iq (limbs (Int.natAbs (Rat.num x))).length iw,.slice mQ (limbs (Rat.den x)).length mR]),(24,.agg #[.bool (decide ((Rat.num y)<0)),.slice A4 (limbs (Int.natAbs (Rat.num y))).length c5,.slice A6 (limbs (Rat.den y)).length c7])] (Pl.aa rfl (Pl.aa rfl (Pl.aa rfl (Pl.aa rfl (Pl.aa rfl (Pl.aa rfl (Pl.aa rfl (Pl.aa rfl Pl.aA)))))))) ?_
       exact Ac _ _ ⟨iq,iw,mQ,mR,A4,c5,A6,c7,fH,(Pl.Ex.trans aH bu),(Un.below nW bu),(Un.below xx bu),xy,xz,u8,u9,vH,vI,(Pl.Cb.ex fO bu),(by omega),rfl⟩
     · refine Pl.aU (z:=.agg #[.bool false,.slice none 0 0,.slice none 0 0]) (by kernel_rfl) rfl rfl rfl rfl (fun Y hY=>Pl.Ex.trans bE hY) ?_
       intro N3 w8 bu jP aL
       have iJ:=Pl.Cb.lt aL
       have mh:=Pl.Ex.size bu
       replace aL:Pl.Cb w8 N3 41 [.bool false,.slice none 0 0,.slice none 0 0]:=aL
       have bD:=Pl.Ex.trans bE bu
       refine Pl.af ?_
       refine Pl.aW [(2,.int .u8 ((kK:Nat):Int)),(6,.bool false),(7,.bool true),(8,.pointer (some ⟨aK,0,none⟩)),(9,.pointer (some ⟨bQ,0,none⟩)),(10,.pointer (some ⟨fH,0,none⟩)),(11,.pointer (some ⟨N3,0,none⟩)),(22,.agg #[.bool (decide ((Rat.num x)<0)),.slice iq (limbs (Int.natAbs (Rat.num x))).length iw,.slice mQ (limbs (Rat.den x)).length mR]),(23,.agg #[.bool (decide (aT<0)),.slice dB (limbs (Int.natAbs aT)).length dD,.int .i64 dA])] (Pl.aa rfl (Pl.aa rfl (Pl.aa rfl (Pl.aa rfl (Pl.aa rfl (Pl.aa rfl (Pl.aa rfl (Pl.aa rfl (Pl.aa rfl Pl.aA))))))))) ?_
       exact zZ _ _ ⟨iq,iw,mQ,mR,fH,N3,(Pl.Ex.trans aH bu),(Un.below nW bu),(Un.below xx bu),xy,xz,(Pl.Cb.ex fO bu),(by omega),aL,(by omega),(by omega),rfl⟩
   refine Pl.aZ [(true,0,0),(true,2,1)] 5 6 Pl.az (by kernel_rfl) (by kernel_rfl) (by kernel_rfl) ?_
   refine Pl.bT (part:=[.bool (decide (aN<0)),.slice aX (limbs (Int.natAbs aN)).length aY,.int .i64 bJ]) (fun X hX=>Pl.Cb.ex aV hX) rfl Tryz.underlying26 rfl (by kernel_rfl) bS rfl rfl rfl rfl rfl ?_
   refine Pl.bT (part:=[.bool (decide (aT<0)),.slice dB (limbs (Int.natAbs aT)).length dD,.int .i64 dA]) (fun X hX=>Pl.Cb.ex dV hX) rfl Tryz.underlying26 rfl (by kernel_rfl) bS rfl rfl rfl rfl rfl ?_
   refine Pl.af ?_
   refine Pl.cB [1,4,5] 5 (by kernel_rfl) (by kernel_rfl) (by kernel_rfl) (Pl.aj ?_ (Pl.aj ?_ (Pl.aj ?_ Pl.aJ)))
   · refine Pl.ah rfl rfl rfl rfl rfl (fun u X=>Pl.enters Tryz.func35 (by kernel_rfl) rfl u X) ?_
     refine Calls.mono (nu _ _ x 8 15 7 _ _ (Dn.mk (Un.below dS aM) bz.can bz.val bz.sz bz.lo bz.hi) (by decide) (by decide) (by decide) (by decide) (by decide) (by decide)) ?_
     rintro e w7 ⟨v3,rfl,hv3,aH⟩
     obtain ⟨A4,c5,A6,c7,rfl,u8,u9,vH,vI⟩:=hv3
     have iU:=Pl.Ex.size aH
     have bE:=Pl.Ex.trans bS aH
     refine ⟨_,rfl,bE,?_⟩
     refine Pl.af ?_
     refine Pl.cB [3,4,5] 4 (by kernel_rfl) (by kernel_rfl) (by kernel_rfl) (Pl.aj ?_ (Pl.aj ?_ (Pl.aj ?_ Pl.aJ)))
     · refine Pl.ah rfl rfl rfl rfl rfl (fun u X=>Pl.enters Tryz.func35 (by kernel_rfl) rfl u X) ?_
       refine Calls.mono (nu _ _ y 8 15 7 _ _ (Dn.mk (Un.below gG (Pl.Ex.trans aM aH)) bH.can bH.val bH.sz bH.lo bH.hi) (by decide) (by decide) (by decide) (by decide) (by decide) (by decide)) ?_
       rintro e w8 ⟨v11,rfl,kL,bu⟩
       obtain ⟨CK,c13,qK,c15,rfl,u16,xA,xN,yj⟩:=kL
       have mh:=Pl.Ex.size bu
       have bD:=Pl.Ex.trans bE bu
       refine ⟨_,rfl,bD,?_⟩
       refine Pl.af ?_
       refine Pl.cB [4,5] 3 (by kernel_rfl) (by kernel_rfl) (by kernel_rfl) (Pl.aj ?_ (Pl.aj ?_ Pl.aJ))
       · refine Pl.aU (z:=.agg #[.bool false,.slice none 0 0,.slice none 0 0]) (by kernel_rfl) rfl rfl rfl rfl (fun Y hY=>Pl.Ex.trans bD hY) ?_
         intro FZ w9 dh Dm iZ
         have IK:=Pl.Cb.lt iZ
         have pG:=Pl.Ex.size dh
         replace iZ:Pl.Cb w9 FZ 41 [.bool false,.slice none 0 0,.slice none 0 0]:=iZ
         have bK:=Pl.Ex.trans bD dh
         refine Pl.af ?_
         refine Pl.aW [(2,.int .u8 ((kK:Nat):Int)),(6,.bool false),(7,.bool true),(8,.pointer (some ⟨aK,0,none⟩)),(9,.pointer (some ⟨bQ,0,none⟩)),(10,.pointer (some ⟨FZ,0,none⟩)),(22,.agg #[.bool (decide ((Rat.num x)<0)),.slice A4 (limbs (Int.natAbs (Rat.num x))).length c5,.slice A6 (limbs (Rat.den x)).length c7]),(24,.agg #[.bool (decide ((Rat.num y)<0)),.slice CK (limbs (Int.natAbs (Rat.num y))).length c13,.slice qK (limbs (Rat.den y)).length c15])] (Pl.aa rfl (Pl.aa rfl (Pl.aa rfl (Pl.aa rfl (Pl.aa rfl (Pl.aa rfl (Pl.aa rfl (Pl.aa rfl Pl.aA)))))))) ?_
         exact Ac _ _ ⟨A4,c5,A6,c7,CK,c13,qK,c15,FZ,(Pl.Ex.trans aH (Pl.Ex.trans bu dh)),(Un.below u8 (Pl.Ex.trans bu dh)),(Un.below u9 (Pl.Ex.trans bu dh)),vH,vI,(Un.below u16 dh),(Un.below xA dh),xN,yj,iZ,(by omega),rfl⟩
       · refine Pl.aU (z:=.agg #[.bool false,.slice none 0 0,.slice none 0 0]) (by kernel_rfl) rfl rfl rfl rfl (fun Y hY=>Pl.Ex.trans bD hY) ?_
         intro FZ w9 dh Dm iZ
         have IK:=Pl.Cb.lt iZ
         have pG:=Pl.Ex.size dh
         replace iZ:Pl.Cb w9 FZ 41 [.bool false,.slice none 0 0,.slice none 0 0]:=iZ
         have bK:=Pl.Ex.trans bD dh
         refine Pl.af ?_
         refine Pl.aW [(2,.int .u8 ((kK:Nat):Int)),(6,.bool false),(7,.bool true),(8,.pointer (some ⟨aK,0,none⟩)),(9,.pointer (some ⟨bQ,0,none⟩)),(11,.pointer (some ⟨FZ,0,none⟩)),(22,.agg #[.bool (decide ((Rat.num x)<0)),.slice A4 (limbs (Int.natAbs (Rat.num x))).length c5,.slice A6 (limbs (Rat.den x)).length c7]),(24,.agg #[.bool (decide ((Rat.num y)<0)),.slice CK (limbs (Int.natAbs (Rat.num y))).length c13,.slice qK (limbs (Rat.den y)).length c15])] (Pl.aa rfl (Pl.aa rfl (Pl.aa rfl (Pl.aa rfl (Pl.aa rfl (Pl.aa rfl (Pl.aa rfl (Pl.aa rfl Pl.aA)))))))) ?_
         exact z8 _ _ ⟨A4,c5,A6,c7,CK,c13,qK,c15,FZ,(Pl.Ex.trans aH (Pl.Ex.trans bu dh)),(Un.below u8 (Pl.Ex.trans bu dh)),(Un.below u9 (Pl.Ex.trans bu dh)),vH,vI,(Un.below u16 dh),(Un.below xA dh),xN,yj,iZ,(by omega),rfl⟩
     · refine Pl.aU (z:=.agg #[.bool false,.slice none 0 0,.slice none 0 0]) (by kernel_rfl) rfl rfl rfl rfl (fun Y hY=>Pl.Ex.trans bE hY) ?_
       intro mo w8 bu AL gL
       have gp:=Pl.Cb.lt gL
       have mh:=Pl.Ex.size bu
       replace gL:Pl.Cb w8 mo 41 [.bool false,.slice none 0 0,.slice none 0 0]:=gL
       have bD:=Pl.Ex.trans bE bu
       refine Pl.af ?_
       refine Pl.aW [(2,.int .u8 ((kK:Nat):Int)),(6,.bool false),(7,.bool true),(8,.pointer (some ⟨aK,0,none⟩)),(9,.pointer (some ⟨bQ,0,none⟩)),(10,.pointer (some ⟨mo,0,none⟩)),(22,.agg #[.bool (decide ((Rat.num x)<0)),.slice A4 (limbs (Int.natAbs (Rat.num x))).length c5,.slice A6 (limbs (Rat.den x)).length c7]),(23,.agg #[.bool (decide (aT<0)),.slice dB (limbs (Int.natAbs aT)).length dD,.int .i64 dA])] (Pl.aa rfl (Pl.aa rfl (Pl.aa rfl (Pl.aa rfl (Pl.aa rfl (Pl.aa rfl (Pl.aa rfl (Pl.aa rfl Pl.aA)))))))) ?_
       exact Ai _ _ ⟨A4,c5,A6,c7,mo,(Pl.Ex.trans aH bu),(Un.below u8 bu),(Un.below u9 bu),vH,vI,gL,(by omega),rfl⟩
     · refine Pl.aU (z:=.agg #[.bool false,.slice none 0 0,.slice none 0 0]) (by kernel_rfl) rfl rfl rfl rfl (fun Y hY=>Pl.Ex.trans bE hY) ?_
       intro mo w8 bu AL gL
       have gp:=Pl.Cb.lt gL
       have mh:=Pl.Ex.size bu
       replace gL:Pl.Cb w8 mo 41 [.bool false,.slice none 0 0,.slice none 0 0]:=gL
       have bD:=Pl.Ex.trans bE bu
       refine Pl.af ?_
       refine Pl.aW [(2,.int .u8 ((kK:Nat):Int)),(6,.bool false),(7,.bool true),(8,.pointer (some ⟨aK,0,none⟩)),(9,.pointer (some ⟨bQ,0,none⟩)),(11,.pointer (some ⟨mo,0,none⟩)),(22,.agg #[.bool (decide ((Rat.num x)<0)),.slice A4 (limbs (Int.natAbs (Rat.num x))).length c5,.slice A6 (limbs (Rat.den x)).length c7]),(23,.agg #[.bool (decide (aT<0)),.slice dB (limbs (Int.natAbs aT)).length dD,.int .i64 dA])] (Pl.aa rfl (Pl.aa rfl (Pl.aa rfl (Pl.aa rfl (Pl.aa rfl (Pl.aa rfl (Pl.aa rfl (Pl.aa rfl Pl.aA)))))))) ?_
       exact Ah _ _ ⟨A4,c5,A6,c7,mo,(Pl.Ex.trans aH bu),(Un.below u8 bu),(Un.below u9 bu),vH,vI,gL,(by omega),rfl⟩
   · refine Pl.aU (z:=.agg #[.bool false,.slice none 0 0,.slice none 0 0]) (by kernel_rfl) rfl rfl rfl rfl (fun Y hY=>Pl.Ex.trans bS hY) ?_
     intro N3 w7 aH jP aL
     have iJ:=Pl.Cb.lt aL
     have iU:=Pl.Ex.size aH
     replace aL:Pl.Cb w7 N3 41 [.bool false,.slice none 0 0,.slice none 0 0]:=aL
     have bE:=Pl.Ex.trans bS aH
     refine Pl.af ?_
     refine Pl.cB [1,5] 4 (by kernel_rfl) (by kernel_rfl) (by kernel_rfl) (Pl.aj ?_ (Pl.aj ?_ Pl.aJ))
     · refine Pl.ah rfl rfl rfl rfl rfl (fun u X=>Pl.enters Tryz.func35 (by kernel_rfl) rfl u X) ?_
       refine Calls.mono (nu _ _ x 8 15 7 _ _ (Dn.mk (Un.below dS (Pl.Ex.trans aM aH)) bz.can bz.val bz.sz bz.lo bz.hi) (by decide) (by decide) (by decide) (by decide) (by decide) (by decide)) ?_
       rintro e w8 ⟨v4,rfl,hv4,bu⟩
       obtain ⟨A5,c6,A7,c8,rfl,u9,rW,xO,xP⟩:=hv4
       have mh:=Pl.Ex.size bu
       have bD:=Pl.Ex.trans bE bu
       refine ⟨_,rfl,bD,?_⟩
       refine Pl.af ?_
       refine Pl.aW [(2,.int .u8 ((kK:Nat):Int)),(6,.bool false),(7,.bool true),(8,.pointer (some ⟨aK,0,none⟩)),(9,.pointer (some ⟨bQ,0,none⟩)),(10,.pointer (some ⟨N3,0,none⟩)),(22,.agg #[.bool (decide ((Rat.num x)<0)),.slice A5 (limbs (Int.natAbs (Rat.num x))).length c6,.slice A7 (limbs (Rat.den x)).length c8]),(23,.agg #[.bool (decide (aT<0)),.slice dB (limbs (Int.natAbs aT)).length dD,.int .i64 dA])] (Pl.aa rfl (Pl.aa rfl (Pl.aa rfl (Pl.aa rfl (Pl.aa rfl (Pl.aa rfl (Pl.aa rfl (Pl.aa rfl Pl.aA)))))))) ?_
       exact Ai _ _ ⟨A5,c6,A7,c8,N3,(Pl.Ex.trans aH bu),u9,rW,xO,xP,(Pl.Cb.ex aL bu),(by omega),rfl⟩
     · refine Pl.aU (z:=.agg #[.bool false,.slice none 0 0,.slice none 0 0]) (by kernel_rfl) rfl rfl rfl rfl (fun Y hY=>Pl.Ex.trans bE hY) ?_
       intro N4 w8 bu iG aF
       have fE:=Pl.Cb.lt aF
       have mh:=Pl.Ex.size bu
       replace aF:Pl.Cb w8 N4 41 [.bool false,.slice none 0 0,.slice none 0 0]:=aF
       have bD:=Pl.Ex.trans bE bu
       refine Pl.af ?_
       refine Pl.aW [(2,.int .u8 ((kK:Nat):Int)),(6,.bool false),(7,.bool true),(8,.pointer (some ⟨aK,0,none⟩)),(9,.pointer (some ⟨bQ,0,none⟩)),(10,.pointer (some ⟨N3,0,none⟩)),(11,.pointer (some ⟨N4,0,none⟩)),(21,.agg #[.bool (decide (aN<0)),.slice aX (limbs (Int.natAbs aN)).length aY,.int .i64 bJ]),(23,.agg #[.bool (decide (aT<0)),.slice dB (limbs (Int.natAbs aT)).length dD,.int .i64 dA])] (Pl.aa rfl (Pl.aa rfl (Pl.aa rfl (Pl.aa rfl (Pl.aa rfl (Pl.aa rfl (Pl.aa rfl (Pl.aa rfl (Pl.aa rfl Pl.aA))))))))) ?_
       exact Ae _ _ ⟨N3,N4,(Pl.Ex.trans aH bu),(Pl.Cb.ex aL bu),(by omega),aF,(by omega),(by omega),rfl⟩
   · refine Pl.aU (z:=.agg #[.bool false,.slice none 0 0,.slice none 0 0]) (by kernel_rfl) rfl rfl rfl rfl (fun Y hY=>Pl.Ex.trans bS hY) ?_
     intro N3 w7 aH jP aL
     have iJ:=Pl.Cb.lt aL
     have iU:=Pl.Ex.size aH
     replace aL:Pl.Cb w7 N3 41 [.bool false,.slice none 0 0,.slice none 0 0]:=aL
     have bE:=Pl.Ex.trans bS aH
     refine Pl.af ?_
     refine Pl.cB [1,4] 4 (by kernel_rfl) (by kernel_rfl) (by kernel_rfl) (Pl.aj ?_ (Pl.aj ?_ Pl.aJ))
     · refine Pl.ah rfl rfl rfl rfl rfl (fun u X=>Pl.enters Tryz.func35 (by kernel_rfl) rfl u X) ?_
       refine Calls.mono (nu _ _ x 8 15 7 _ _ (Dn.mk (Un.below dS (Pl.Ex.trans aM aH)) bz.can bz.val bz.sz bz.lo bz.hi) (by decide) (by decide) (by decide) (by decide) (by decide) (by decide)) ?_
       rintro e w8 ⟨v4,rfl,hv4,bu⟩
       obtain ⟨A5,c6,A7,c8,rfl,u9,rW,xO,xP⟩:=hv4
       have mh:=Pl.Ex.size bu
       have bD:=Pl.Ex.trans bE bu
       refine ⟨_,rfl,bD,?_⟩
       refine Pl.af ?_
       refine Pl.aW [(2,.int .u8 ((kK:Nat):Int)),(6,.bool false),(7,.bool true),(8,.pointer (some ⟨aK,0,none⟩)),(9,.pointer (some ⟨bQ,0,none⟩)),(11,.pointer (some ⟨N3,0,none⟩)),(22,.agg #[.bool (decide ((Rat.num x)<0)),.slice A5 (limbs (Int.natAbs (Rat.num x))).length c6,.slice A7 (limbs (Rat.den x)).length c8]),(23,.agg #[.bool (decide (aT<0)),.slice dB (limbs (Int.natAbs aT)).length dD,.int .i64 dA])] (Pl.aa rfl (Pl.aa rfl (Pl.aa rfl (Pl.aa rfl (Pl.aa rfl (Pl.aa rfl (Pl.aa rfl (Pl.aa rfl Pl.aA)))))))) ?_
       exact Ah _ _ ⟨A5,c6,A7,c8,N3,(Pl.Ex.trans aH bu),u9,rW,xO,xP,(Pl.Cb.ex aL bu),(by omega),rfl⟩
     · refine Pl.aU (z:=.agg #[.bool false,.slice none 0 0,.slice none 0 0]) (by kernel_rfl) rfl rfl rfl rfl (fun Y hY=>Pl.Ex.trans bE hY) ?_
       intro N4 w8 bu iG aF
       have fE:=Pl.Cb.lt aF
       have mh:=Pl.Ex.size bu
       replace aF:Pl.Cb w8 N4 41 [.bool false,.slice none 0 0,.slice none 0 0]:=aF
       have bD:=Pl.Ex.trans bE bu
       refine Pl.af ?_
       refine Pl.aW [(2,.int .u8 ((kK:Nat):Int)),(6,.bool false),(7,.bool true),(8,.pointer (some ⟨aK,0,none⟩)),(9,.pointer (some ⟨bQ,0,none⟩)),(10,.pointer (some ⟨N4,0,none⟩)),(11,.pointer (some ⟨N3,0,none⟩)),(21,.agg #[.bool (decide (aN<0)),.slice aX (limbs (Int.natAbs aN)).length aY,.int .i64 bJ]),(23,.agg #[.bool (decide (aT<0)),.slice dB (limbs (Int.natAbs aT)).length dD,.int .i64 dA])] (Pl.aa rfl (Pl.aa rfl (Pl.aa rfl (Pl.aa rfl (Pl.aa rfl (Pl.aa rfl (Pl.aa rfl (Pl.aa rfl (Pl.aa rfl Pl.aA))))))))) ?_
       exact Ae _ _ ⟨N4,N3,(Pl.Ex.trans aH bu),aF,(by omega),(Pl.Cb.ex aL bu),(by omega),(by omega),rfl⟩
 refine Pl.fP 3 55 (fun l' w'=>∃ (aN:Int) (bJ:Int) (aX:Option Addr) (aY:Nat) (aK:Nat) (bQ:Nat),Pl.Ex w4 w'∧(Un w' (.slice aX (limbs (Int.natAbs aN)).length aY) (Int.natAbs aN))∧(Dd aN bJ x 8 (-200) 456)∧(Pl.Cb w' aK 26 [.bool false,.slice none 0 0,.int .i64 0])∧(w4.heap.size≤aK)∧(Pl.Cb w' bQ 26 [.bool false,.slice none 0 0,.int .i64 0])∧(w4.heap.size≤bQ)∧(aK≠bQ)∧l'=[(2,.int .u8 ((kK:Nat):Int)),(6,.bool false),(7,.bool true),(8,.pointer (some ⟨aK,0,none⟩)),(9,.pointer (some ⟨bQ,0,none⟩)),(18,.agg #[.bool (decide (aN<0)),.slice aX (limbs (Int.natAbs aN)).length aY,.int .i64 bJ]),(19,.agg #[.bool qy,.slice Ay oP.length cy,.int .i64 qA])]) ?_ fun zZ=>?_
 · rintro _ w5 ⟨aN,bJ,aX,aY,aK,bQ,aP,dS,bz,aV,jk,dV,nY,nZ,rfl⟩
   have jY:=Pl.Ex.size aP
   have hS5:=Pl.Ex.trans dP aP
   have mO:=bz.lo
   have mP:=bz.hi
   have gU:=Pl.Cb.lt aV
   have lZ:=Pl.Cb.lt dV
   refine Pl.aZ [(false,3,55),(false,6,63),(false,7,127)] 255 0 Pl.az (by kernel_rfl) (by kernel_rfl) (by kernel_rfl) ?_
   refine Pl.ah rfl rfl rfl rfl rfl (fun u X=>Pl.enters Tryz.func38 (by kernel_rfl) rfl u X) ?_
   refine Calls.mono (dF _ _ _ _ _ _ (U.below IB (Pl.Ex.trans hE1 (Pl.Ex.trans hE2 (Pl.Ex.trans aO (Pl.Ex.trans aR aP))))) 8 (by decide)) ?_
   rintro e w6 ⟨v3,rfl,hv3,aM⟩
   rw [Ho] at hv3
   replace hv3:=Dn.le hv3 (Nat.le_refl 8) (show (-200:Int) ≤ -200 by decide) (show _≤(456:Int) by decide)
   obtain ⟨m4,e5,A6,c7,rfl,u8,d9⟩:=hv3
   have Ve:=d9.lo
   have Vf:=d9.hi
   have jr:=Pl.Ex.size aM
   have bS:=Pl.Ex.trans hS5 aM
   refine ⟨_,rfl,bS,?_⟩
   refine Pl.bg (new:=[.bool (decide (aN<0)),.slice aX (limbs (Int.natAbs aN)).length aY,.int .i64 bJ]) (Pl.Cb.ex aV aM) (by kernel_rfl) rfl (by simp [Value.oneCell']) rfl rfl rfl rfl rfl rfl (fun Y hY=>Pl.Ex.xs bS hY (by omega)) ?_
   intro w7 gP fU
   have aH:=Pl.Ex.xs (Pl.Ex.trans aP aM) gP (by omega)
   have iU:=Pl.Xs.size gP
   have bE:=Pl.Ex.xs bS gP (by omega)
   have dY:=Pl.Cb.xs (Pl.Cb.ex dV aM) gP (by simp;omega)
   refine Pl.bg (new:=[.bool (decide (m4<0)),.slice A6 (limbs (Int.natAbs m4)).length c7,.int .i64 e5]) dY (by kernel_rfl) rfl (by simp [Value.oneCell']) rfl rfl rfl rfl rfl rfl (fun Y hY=>Pl.Ex.xs bE hY (by omega)) ?_
   intro w8 eX ji
   have bu:=Pl.Ex.xs aH eX (by omega)
   have mh:=Pl.Xs.size eX
   have bD:=Pl.Ex.xs bE eX (by omega)
   have iF:=Pl.Cb.xs fU eX (by simp;omega)
   refine Pl.af ?_
   have k10:=Un.xs (Un.below dS aM) gP (Pl.Cb.ex aV aM) (by simp)
   have k11:=Un.xs k10 eX dY (by simp)
   have k12:=Un.xs u8 gP (Pl.Cb.ex aV aM) (by simp)
   have k13:=Un.xs k12 eX dY (by simp)
   refine Pl.aW [(2,.int .u8 ((kK:Nat):Int)),(6,.bool false),(7,.bool true),(8,.pointer (some ⟨aK,0,none⟩)),(9,.pointer (some ⟨bQ,0,none⟩))] (Pl.aa rfl (Pl.aa rfl (Pl.aa rfl (Pl.aa rfl (Pl.aa rfl Pl.aA))))) ?_
   exact tF _ _ ⟨aN,bJ,aX,aY,m4,e5,A6,c7,aK,bQ,bu,k11,bz,k13,d9,iF,(by omega),ji,(by omega),(by omega),rfl⟩
 refine Pl.fP 3 47 (fun l' w'=>∃ (aN:Int) (bJ:Int) (aX:Option Addr) (aY:Nat) (aT:Int) (dA:Int) (dB:Option Addr) (dD:Nat) (aK:Nat),Pl.Ex w4 w'∧(Un w' (.slice aX (limbs (Int.natAbs aN)).length aY) (Int.natAbs aN))∧(Dd aN bJ x 8 (-200) 456)∧(Un w' (.slice dB (limbs (Int.natAbs aT)).length dD) (Int.natAbs aT))∧(Dd aT dA y 8 (-200) 456)∧(Pl.Cb w' aK 26 [.bool false,.slice none 0 0,.int .i64 0])∧(w4.heap.size≤aK)∧l'=[(2,.int .u8 ((kK:Nat):Int)),(6,.bool false),(7,.bool true),(9,.pointer (some ⟨aK,0,none⟩)),(18,.agg #[.bool (decide (aN<0)),.slice aX (limbs (Int.natAbs aN)).length aY,.int .i64 bJ]),(20,.agg #[.bool (decide (aT<0)),.slice dB (limbs (Int.natAbs aT)).length dD,.int .i64 dA])]) ?_ fun z8=>?_
 · rintro _ w5 ⟨aN,bJ,aX,aY,aT,dA,dB,dD,aK,aP,dS,bz,gG,bH,aV,jk,rfl⟩
   have jY:=Pl.Ex.size aP
   have hS5:=Pl.Ex.trans dP aP
   have mO:=bz.lo
   have mP:=bz.hi
   have pE:=bH.lo
   have pF:=bH.hi
   have gU:=Pl.Cb.lt aV
   refine Pl.aZ [(false,4,47),(false,6,63),(false,7,127)] 255 0 Pl.az (by kernel_rfl) (by kernel_rfl) (by kernel_rfl) ?_
   refine Pl.aU (z:=.agg #[.bool false,.slice none 0 0,.int .i64 0]) (by kernel_rfl) rfl rfl rfl rfl (fun Y hY=>Pl.Ex.trans hS5 hY) ?_
   intro N3 w6 aM jP aL
   have iJ:=Pl.Cb.lt aL
   have jr:=Pl.Ex.size aM
   replace aL:Pl.Cb w6 N3 26 [.bool false,.slice none 0 0,.int .i64 0]:=aL
   have bS:=Pl.Ex.trans hS5 aM
   refine Pl.bg (new:=[.bool (decide (aN<0)),.slice aX (limbs (Int.natAbs aN)).length aY,.int .i64 bJ]) aL (by kernel_rfl) rfl (by simp [Value.oneCell']) rfl rfl rfl rfl rfl rfl (fun Y hY=>Pl.Ex.xs bS hY (by omega)) ?_
   intro w7 gP dX
   have aH:=Pl.Ex.xs aM gP (by omega)
   have iU:=Pl.Xs.size gP
   have bE:=Pl.Ex.xs bS gP (by omega)
   refine Pl.bg (new:=[.bool (decide (aT<0)),.slice dB (limbs (Int.natAbs aT)).length dD,.int .i64 dA]) (Pl.Cb.ex aV aH) (by kernel_rfl) rfl (by simp [Value.oneCell']) rfl rfl rfl rfl rfl rfl (fun Y hY=>Pl.Ex.xs bE hY (by omega)) ?_
   intro w8 eX fU
   have bu:=Pl.Ex.xs (Pl.Ex.trans aP aH) eX (by omega)
   have mh:=Pl.Xs.size eX
   have bD:=Pl.Ex.xs bE eX (by omega)
   have qR:=Pl.Cb.xs dX eX (by simp;omega)
   refine Pl.af ?_
   have k4:=Un.xs (Un.below dS aH) eX (Pl.Cb.ex aV aH) (by simp)
   have k5:=Un.xs (Un.below gG aH) eX (Pl.Cb.ex aV aH) (by simp)
   refine Pl.aW [(2,.int .u8 ((kK:Nat):Int)),(6,.bool false),(7,.bool true),(8,.pointer (some ⟨N3,0,none⟩)),(9,.pointer (some ⟨aK,0,none⟩))] (Pl.aa rfl (Pl.aa rfl (Pl.aa rfl (Pl.aa rfl (Pl.aa rfl Pl.aA))))) ?_
   exact tF _ _ ⟨aN,bJ,aX,aY,aT,dA,dB,dD,N3,aK,bu,k4,bz,k5,bH,qR,(by omega),fU,(by omega),(by omega),rfl⟩
 refine Pl.fP 3 31 (fun l' w'=>∃ (aN:Int) (bJ:Int) (aX:Option Addr) (aY:Nat) (aT:Int) (dA:Int) (dB:Option Addr) (dD:Nat) (aK:Nat),Pl.Ex w4 w'∧(Un w' (.slice aX (limbs (Int.natAbs aN)).length aY) (Int.natAbs aN))∧(Dd aN bJ x 8 (-200) 456)∧(Un w' (.slice dB (limbs (Int.natAbs aT)).length dD) (Int.natAbs aT))∧(Dd aT dA y 8 (-200) 456)∧(Pl.Cb w' aK 26 [.bool false,.slice none 0 0,.int .i64 0])∧(w4.heap.size≤aK)∧l'=[(2,.int .u8 ((kK:Nat):Int)),(6,.bool false),(7,.bool true),(8,.pointer (some ⟨aK,0,none⟩)),(18,.agg #[.bool (decide (aN<0)),.slice aX (limbs (Int.natAbs aN)).length aY,.int .i64 bJ]),(20,.agg #[.bool (decide (aT<0)),.slice dB (limbs (Int.natAbs aT)).length dD,.int .i64 dA])]) ?_ fun Ac=>?_
 · rintro _ w5 ⟨aN,bJ,aX,aY,aT,dA,dB,dD,aK,aP,dS,bz,gG,bH,aV,jk,rfl⟩
   have jY:=Pl.Ex.size aP
   have hS5:=Pl.Ex.trans dP aP
   have mO:=bz.lo
   have mP:=bz.hi
   have pE:=bH.lo
   have pF:=bH.hi
   have gU:=Pl.Cb.lt aV
   refine Pl.aZ [(false,5,31),(false,6,63),(false,7,127)] 255 0 Pl.az (by kernel_rfl) (by kernel_rfl) (by kernel_rfl) ?_
   refine Pl.aU (z:=.agg #[.bool false,.slice none 0 0,.int .i64 0]) (by kernel_rfl) rfl rfl rfl rfl (fun Y hY=>Pl.Ex.trans hS5 hY) ?_
   intro N3 w6 aM jP aL
   have iJ:=Pl.Cb.lt aL
   have jr:=Pl.Ex.size aM
   replace aL:Pl.Cb w6 N3 26 [.bool false,.slice none 0 0,.int .i64 0]:=aL
   have bS:=Pl.Ex.trans hS5 aM
   refine Pl.bg (new:=[.bool (decide (aN<0)),.slice aX (limbs (Int.natAbs aN)).length aY,.int .i64 bJ]) (Pl.Cb.ex aV aM) (by kernel_rfl) rfl (by simp [Value.oneCell']) rfl rfl rfl rfl rfl rfl (fun Y hY=>Pl.Ex.xs bS hY (by omega)) ?_
   intro w7 gP fU
   have aH:=Pl.Ex.xs (Pl.Ex.trans aP aM) gP (by omega)
   have iU:=Pl.Xs.size gP
   have bE:=Pl.Ex.xs bS gP (by omega)
   have dX:=Pl.Cb.xs aL gP (by simp;omega)
   refine Pl.bg (new:=[.bool (decide (aT<0)),.slice dB (limbs (Int.natAbs aT)).length dD,.int .i64 dA]) dX (by kernel_rfl) rfl (by simp [Value.oneCell']) rfl rfl rfl rfl rfl rfl (fun Y hY=>Pl.Ex.xs bE hY (by omega)) ?_
   intro w8 eX qR
   have bu:=Pl.Ex.xs aH eX (by omega)
   have mh:=Pl.Xs.size eX
   have bD:=Pl.Ex.xs bE eX (by omega)
   have iF:=Pl.Cb.xs fU eX (by simp;omega)
   refine Pl.af ?_
   have k4:=Un.xs (Un.below dS aM) gP (Pl.Cb.ex aV aM) (by simp)
   have k5:=Un.xs k4 eX dX (by simp)
   have k6:=Un.xs (Un.below gG aM) gP (Pl.Cb.ex aV aM) (by simp)
   have k7:=Un.xs k6 eX dX (by simp)
   refine Pl.aW [(2,.int .u8 ((kK:Nat):Int)),(6,.bool false),(7,.bool true),(8,.pointer (some ⟨aK,0,none⟩)),(9,.pointer (some ⟨N3,0,none⟩))] (Pl.aa rfl (Pl.aa rfl (Pl.aa rfl (Pl.aa rfl (Pl.aa rfl Pl.aA))))) ?_
   exact tF _ _ ⟨aN,bJ,aX,aY,aT,dA,dB,dD,aK,N3,bu,k5,bz,k7,bH,iF,(by omega),qR,(by omega),(by omega),rfl⟩
 refine Pl.fP 4 53 (fun l' w'=>∃ (aK:Nat) (bQ:Nat),Pl.Ex w4 w'∧(Pl.Cb w' aK 26 [.bool false,.slice none 0 0,.int .i64 0])∧(w4.heap.size≤aK)∧(Pl.Cb w' bQ 26 [.bool false,.slice none 0 0,.int .i64 0])∧(w4.heap.size≤bQ)∧(aK≠bQ)∧l'=[(2,.int .u8 ((kK:Nat):Int)),(6,.bool false),(7,.bool true),(8,.pointer (some ⟨aK,0,none⟩)),(9,.pointer (some ⟨bQ,0,none⟩)),(17,.agg #[.bool bx0,.slice Ax lu.length cx,.int .i64 oM]),(19,.agg #[.bool qy,.slice Ay oP.length cy,.int .i64 qA])]) ?_ fun Ae=>?_
 · rintro _ w5 ⟨aK,bQ,aP,aV,jk,dV,nY,nZ,rfl⟩
   have jY:=Pl.Ex.size aP
   have hS5:=Pl.Ex.trans dP aP
   have gU:=Pl.Cb.lt aV
   have lZ:=Pl.Cb.lt dV
   refine Pl.aZ [(false,1,53),(false,3,55),(false,6,63),(false,7,127)] 255 0 Pl.az (by kernel_rfl) (by kernel_rfl) (by kernel_rfl) ?_
   refine Pl.ah rfl rfl rfl rfl rfl (fun u X=>Pl.enters Tryz.func38 (by kernel_rfl) rfl u X) ?_
   refine Calls.mono (dF _ _ _ _ _ _ (U.below zM (Pl.Ex.trans hE1 (Pl.Ex.trans hE2 (Pl.Ex.trans aO (Pl.Ex.trans aR aP))))) 8 (by decide)) ?_
   rintro e w6 ⟨v3,rfl,hv3,aM⟩
   rw [CJ] at hv3
   replace hv3:=Dn.le hv3 (Nat.le_refl 8) (show (-200:Int) ≤ -200 by decide) (show _≤(456:Int) by decide)
   obtain ⟨m4,e5,A6,c7,rfl,u8,d9⟩:=hv3
   have Ve:=d9.lo
   have Vf:=d9.hi
   have jr:=Pl.Ex.size aM
   have bS:=Pl.Ex.trans hS5 aM
   refine ⟨_,rfl,bS,?_⟩
   refine Pl.ah rfl rfl rfl rfl rfl (fun u X=>Pl.enters Tryz.func38 (by kernel_rfl) rfl u X) ?_
   refine Calls.mono (dF _ _ _ _ _ _ (U.below IB (Pl.Ex.trans hE1 (Pl.Ex.trans hE2 (Pl.Ex.trans aO (Pl.Ex.trans aR (Pl.Ex.trans aP aM)))))) 8 (by decide)) ?_
   rintro e w7 ⟨v10,rfl,vV,aH⟩
   rw [Ho] at vV
   replace vV:=Dn.le vV (Nat.le_refl 8) (show (-200:Int) ≤ -200 by decide) (show _≤(456:Int) by decide)
   obtain ⟨m11,e12,Et,c14,rfl,Ff,OO⟩:=vV
   have ac0:=OO.lo
   have ac1:=OO.hi
   have iU:=Pl.Ex.size aH
   have bE:=Pl.Ex.trans bS aH
   refine ⟨_,rfl,bE,?_⟩
   refine Pl.bg (new:=[.bool (decide (m4<0)),.slice A6 (limbs (Int.natAbs m4)).length c7,.int .i64 e5]) (Pl.Cb.ex aV (Pl.Ex.trans aM aH)) (by kernel_rfl) rfl (by simp [Value.oneCell']) rfl rfl rfl rfl rfl rfl (fun Y hY=>Pl.Ex.xs bE hY (by omega)) ?_
   intro w8 eX fU
   have bu:=Pl.Ex.xs (Pl.Ex.trans aP (Pl.Ex.trans aM aH)) eX (by omega)
   have mh:=Pl.Xs.size eX
   have bD:=Pl.Ex.xs bE eX (by omega)
   have dY:=Pl.Cb.xs (Pl.Cb.ex dV (Pl.Ex.trans aM aH)) eX (by simp;omega)
   refine Pl.bg (new:=[.bool (decide (m11<0)),.slice Et (limbs (Int.natAbs m11)).length c14,.int .i64 e12]) dY (by kernel_rfl) rfl (by simp [Value.oneCell']) rfl rfl rfl rfl rfl rfl (fun Y hY=>Pl.Ex.xs bD hY (by omega)) ?_
   intro w9 gH ji
   have dh:=Pl.Ex.xs bu gH (by omega)
   have pG:=Pl.Xs.size gH
   have bK:=Pl.Ex.xs bD gH (by omega)
   have iF:=Pl.Cb.xs fU gH (by simp;omega)
   refine Pl.af ?_
   have k17:=Un.xs (Un.below u8 aH) eX (Pl.Cb.ex aV (Pl.Ex.trans aM aH)) (by simp)
   have k18:=Un.xs k17 gH dY (by simp)
   have k19:=Un.xs Ff eX (Pl.Cb.ex aV (Pl.Ex.trans aM aH)) (by simp)
   have k20:=Un.xs k19 gH dY (by simp)
   refine Pl.aW [(2,.int .u8 ((kK:Nat):Int)),(6,.bool false),(7,.bool true),(8,.pointer (some ⟨aK,0,none⟩)),(9,.pointer (some ⟨bQ,0,none⟩))] (Pl.aa rfl (Pl.aa rfl (Pl.aa rfl (Pl.aa rfl (Pl.aa rfl Pl.aA))))) ?_
   exact tF _ _ ⟨m4,e5,A6,c7,m11,e12,Et,c14,aK,bQ,dh,k18,d9,k20,OO,iF,(by omega),ji,(by omega),(by omega),rfl⟩
 refine Pl.fP 4 39 (fun l' w'=>∃ (aN:Int) (bJ:Int) (aX:Option Addr) (aY:Nat) (aK:Nat),Pl.Ex w4 w'∧(Un w' (.slice aX (limbs (Int.natAbs aN)).length aY) (Int.natAbs aN))∧(Dd aN bJ x 8 (-200) 456)∧(Pl.Cb w' aK 26 [.bool false,.slice none 0 0,.int .i64 0])∧(w4.heap.size≤aK)∧l'=[(2,.int .u8 ((kK:Nat):Int)),(6,.bool false),(7,.bool true),(9,.pointer (some ⟨aK,0,none⟩)),(18,.agg #[.bool (decide (aN<0)),.slice aX (limbs (Int.natAbs aN)).length aY,.int .i64 bJ]),(19,.agg #[.bool qy,.slice Ay oP.length cy,.int .i64 qA])]) ?_ fun Ah=>?_
 · rintro _ w5 ⟨aN,bJ,aX,aY,aK,aP,dS,bz,aV,jk,rfl⟩
   have jY:=Pl.Ex.size aP
   have hS5:=Pl.Ex.trans dP aP
   have mO:=bz.lo
   have mP:=bz.hi
   have gU:=Pl.Cb.lt aV
   refine Pl.cB [3,4] 3 (by kernel_rfl) (by kernel_rfl) (by kernel_rfl) (Pl.aj ?_ (Pl.aj ?_ Pl.aJ))
   · refine Pl.ah rfl rfl rfl rfl rfl (fun u X=>Pl.enters Tryz.func38 (by kernel_rfl) rfl u X) ?_
     refine Calls.mono (dF _ _ _ _ _ _ (U.below IB (Pl.Ex.trans hE1 (Pl.Ex.trans hE2 (Pl.Ex.trans aO (Pl.Ex.trans aR aP))))) 8 (by decide)) ?_
     rintro e w6 ⟨v3,rfl,hv3,aM⟩
     rw [Ho] at hv3
     replace hv3:=Dn.le hv3 (Nat.le_refl 8) (show (-200:Int) ≤ -200 by decide) (show _≤(456:Int) by decide)
     obtain ⟨m4,e5,A6,c7,rfl,u8,d9⟩:=hv3
     have Ve:=d9.lo
     have Vf:=d9.hi
     have jr:=Pl.Ex.size aM
     have bS:=Pl.Ex.trans hS5 aM
     refine ⟨_,rfl,bS,?_⟩
     refine Pl.af ?_
     refine Pl.aW [(2,.int .u8 ((kK:Nat):Int)),(6,.bool false),(7,.bool true),(9,.pointer (some ⟨aK,0,none⟩)),(18,.agg #[.bool (decide (aN<0)),.slice aX (limbs (Int.natAbs aN)).length aY,.int .i64 bJ]),(20,.agg #[.bool (decide (m4<0)),.slice A6 (limbs (Int.natAbs m4)).length c7,.int .i64 e5])] (Pl.aa rfl (Pl.aa rfl (Pl.aa rfl (Pl.aa rfl (Pl.aa rfl (Pl.aa rfl Pl.aA)))))) ?_
     exact z8 _ _ ⟨aN,bJ,aX,aY,m4,e5,A6,c7,aK,(Pl.Ex.trans aP aM),(Un.below dS aM),bz,u8,d9,(Pl.Cb.ex aV aM),(by omega),rfl⟩
   · refine Pl.aU (z:=.agg #[.bool false,.slice none 0 0,.int .i64 0]) (by kernel_rfl) rfl rfl rfl rfl (fun Y hY=>Pl.Ex.trans hS5 hY) ?_
     intro N3 w6 aM jP aL
     have iJ:=Pl.Cb.lt aL
     have jr:=Pl.Ex.size aM
     replace aL:Pl.Cb w6 N3 26 [.bool false,.slice none 0 0,.int .i64 0]:=aL
     have bS:=Pl.Ex.trans hS5 aM
     refine Pl.af ?_
     refine Pl.aW [(2,.int .u8 ((kK:Nat):Int)),(6,.bool false),(7,.bool true),(8,.pointer (some ⟨N3,0,none⟩)),(9,.pointer (some ⟨aK,0,none⟩)),(18,.agg #[.bool (decide (aN<0)),.slice aX (limbs (Int.natAbs aN)).length aY,.int .i64 bJ]),(19,.agg #[.bool qy,.slice Ay oP.length cy,.int .i64 qA])] (Pl.aa rfl (Pl.aa rfl (Pl.aa rfl (Pl.aa rfl (Pl.aa rfl (Pl.aa rfl (Pl.aa rfl Pl.aA))))))) ?_
     exact zZ _ _ ⟨aN,bJ,aX,aY,N3,aK,(Pl.Ex.trans aP aM),(Un.below dS aM),bz,aL,(by omega),(Pl.Cb.ex aV aM),(by omega),(by omega),rfl⟩
 refine Pl.fP 4 23 (fun l' w'=>∃ (aN:Int) (bJ:Int) (aX:Option Addr) (aY:Nat) (aK:Nat),Pl.Ex w4 w'∧(Un w' (.slice aX (limbs (Int.natAbs aN)).length aY) (Int.natAbs aN))∧(Dd aN bJ x 8 (-200) 456)∧(Pl.Cb w' aK 26 [.bool false,.slice none 0 0,.int .i64 0])∧(w4.heap.size≤aK)∧l'=[(2,.int .u8 ((kK:Nat):Int)),(6,.bool false),(7,.bool true),(8,.pointer (some ⟨aK,0,none⟩)),(18,.agg #[.bool (decide (aN<0)),.slice aX (limbs (Int.natAbs aN)).length aY,.int .i64 bJ]),(19,.agg #[.bool qy,.slice Ay oP.length cy,.int .i64 qA])]) ?_ fun Ai=>?_
 · rintro _ w5 ⟨aN,bJ,aX,aY,aK,aP,dS,bz,aV,jk,rfl⟩
   have jY:=Pl.Ex.size aP
   have hS5:=Pl.Ex.trans dP aP
   have mO:=bz.lo
   have mP:=bz.hi
   have gU:=Pl.Cb.lt aV
   refine Pl.cB [3,5] 3 (by kernel_rfl) (by kernel_rfl) (by kernel_rfl) (Pl.aj ?_ (Pl.aj ?_ Pl.aJ))
   · refine Pl.ah rfl rfl rfl rfl rfl (fun u X=>Pl.enters Tryz.func38 (by kernel_rfl) rfl u X) ?_
     refine Calls.mono (dF _ _ _ _ _ _ (U.below IB (Pl.Ex.trans hE1 (Pl.Ex.trans hE2 (Pl.Ex.trans aO (Pl.Ex.trans aR aP))))) 8 (by decide)) ?_
     rintro e w6 ⟨v3,rfl,hv3,aM⟩
     rw [Ho] at hv3
     replace hv3:=Dn.le hv3 (Nat.le_refl 8) (show (-200:Int) ≤ -200 by decide) (show _≤(456:Int) by decide)
     obtain ⟨m4,e5,A6,c7,rfl,u8,d9⟩:=hv3
     have Ve:=d9.lo
     have Vf:=d9.hi
     have jr:=Pl.Ex.size aM
     have bS:=Pl.Ex.trans hS5 aM
     refine ⟨_,rfl,bS,?_⟩
     refine Pl.af ?_
     refine Pl.aW [(2,.int .u8 ((kK:Nat):Int)),(6,.bool false),(7,.bool true),(8,.pointer (some ⟨aK,0,none⟩)),(18,.agg #[.bool (decide (aN<0)),.slice aX (limbs (Int.natAbs aN)).length aY,.int .i64 bJ]),(20,.agg #[.bool (decide (m4<0)),.slice A6 (limbs (Int.natAbs m4)).length c7,.int .i64 e5])] (Pl.aa rfl (Pl.aa rfl (Pl.aa rfl (Pl.aa rfl (Pl.aa rfl (Pl.aa rfl Pl.aA)))))) ?_
     exact Ac _ _ ⟨aN,bJ,aX,aY,m4,e5,A6,c7,aK,(Pl.Ex.trans aP aM),(Un.below dS aM),bz,u8,d9,(Pl.Cb.ex aV aM),(by omega),rfl⟩
   · refine Pl.aU (z:=.agg #[.bool false,.slice none 0 0,.int .i64 0]) (by kernel_rfl) rfl rfl rfl rfl (fun Y hY=>Pl.Ex.trans hS5 hY) ?_
     intro N3 w6 aM jP aL
     have iJ:=Pl.Cb.lt aL
     have jr:=Pl.Ex.size aM
     replace aL:Pl.Cb w6 N3 26 [.bool false,.slice none 0 0,.int .i64 0]:=aL
     have bS:=Pl.Ex.trans hS5 aM
     refine Pl.af ?_
     refine Pl.aW [(2,.int .u8 ((kK:Nat):Int)),(6,.bool false),(7,.bool true),(8,.pointer (some ⟨aK,0,none⟩)),(9,.pointer (some ⟨N3,0,none⟩)),(18,.agg #[.bool (decide (aN<0)),.slice aX (limbs (Int.natAbs aN)).length aY,.int .i64 bJ]),(19,.agg #[.bool qy,.slice Ay oP.length cy,.int .i64 qA])] (Pl.aa rfl (Pl.aa rfl (Pl.aa rfl (Pl.aa rfl (Pl.aa rfl (Pl.aa rfl (Pl.aa rfl Pl.aA))))))) ?_
     exact zZ _ _ ⟨aN,bJ,aX,aY,aK,N3,(Pl.Ex.trans aP aM),(Un.below dS aM),bz,(Pl.Cb.ex aV aM),(by omega),aL,(by omega),(by omega),rfl⟩
 refine Pl.aZ [(true,0,0),(true,2,1)] 5 6 Pl.az (by kernel_rfl) (by kernel_rfl) (by kernel_rfl) ?_
 refine Pl.bT (part:=[.bool bx0,.slice Ax lu.length cx,.int .i64 oM]) (fun X hX=>Pl.Cb.ex (Pl.Cb.ex aC (Pl.Ex.trans hE2 aO)) hX) rfl Tryz.underlying26 rfl (by kernel_rfl) dP rfl rfl rfl rfl rfl ?_
 refine Pl.bT (part:=[.bool qy,.slice Ay oP.length cy,.int .i64 qA]) (fun X hX=>Pl.Cb.ex (Pl.Cb.ex aD aO) hX) rfl Tryz.underlying26 rfl (by kernel_rfl) dP rfl rfl rfl rfl rfl ?_
 refine Pl.af ?_
 refine Pl.cB [1,4,5] 5 (by kernel_rfl) (by kernel_rfl) (by kernel_rfl) (Pl.aj ?_ (Pl.aj ?_ (Pl.aj ?_ Pl.aJ)))
 · refine Pl.ah rfl rfl rfl rfl rfl (fun u X=>Pl.enters Tryz.func38 (by kernel_rfl) rfl u X) ?_
   refine Calls.mono (dF _ _ _ _ _ _ (U.below zM (Pl.Ex.trans hE1 (Pl.Ex.trans hE2 (Pl.Ex.trans aO aR)))) 8 (by decide)) ?_
   rintro e w5 ⟨v3,rfl,hv3,aP⟩
   rw [CJ] at hv3
   replace hv3:=Dn.le hv3 (Nat.le_refl 8) (show (-200:Int) ≤ -200 by decide) (show _≤(456:Int) by decide)
   obtain ⟨m4,e5,A6,c7,rfl,u8,d9⟩:=hv3
   have Ve:=d9.lo
   have Vf:=d9.hi
   have jY:=Pl.Ex.size aP
   have hS5:=Pl.Ex.trans dP aP
   refine ⟨_,rfl,hS5,?_⟩
   refine Pl.af ?_
   refine Pl.cB [3,4,5] 4 (by kernel_rfl) (by kernel_rfl) (by kernel_rfl) (Pl.aj ?_ (Pl.aj ?_ (Pl.aj ?_ Pl.aJ)))
   · refine Pl.ah rfl rfl rfl rfl rfl (fun u X=>Pl.enters Tryz.func38 (by kernel_rfl) rfl u X) ?_
     refine Calls.mono (dF _ _ _ _ _ _ (U.below IB (Pl.Ex.trans hE1 (Pl.Ex.trans hE2 (Pl.Ex.trans aO (Pl.Ex.trans aR aP))))) 8 (by decide)) ?_
     rintro e w6 ⟨v10,rfl,vV,aM⟩
     rw [Ho] at vV
     replace vV:=Dn.le vV (Nat.le_refl 8) (show (-200:Int) ≤ -200 by decide) (show _≤(456:Int) by decide)
     obtain ⟨m11,e12,Et,c14,rfl,Ff,OO⟩:=vV
     have ac0:=OO.lo
     have ac1:=OO.hi
     have jr:=Pl.Ex.size aM
     have bS:=Pl.Ex.trans hS5 aM
     refine ⟨_,rfl,bS,?_⟩
     refine Pl.af ?_
     refine Pl.cB [4,5] 3 (by kernel_rfl) (by kernel_rfl) (by kernel_rfl) (Pl.aj ?_ (Pl.aj ?_ Pl.aJ))
     · refine Pl.aU (z:=.agg #[.bool false,.slice none 0 0,.int .i64 0]) (by kernel_rfl) rfl rfl rfl rfl (fun Y hY=>Pl.Ex.trans bS hY) ?_
       intro Eh w7 aH BZ iI
       have FW:=Pl.Cb.lt iI
       have iU:=Pl.Ex.size aH
       replace iI:Pl.Cb w7 Eh 26 [.bool false,.slice none 0 0,.int .i64 0]:=iI
       have bE:=Pl.Ex.trans bS aH
       refine Pl.af ?_
       refine Pl.aW [(2,.int .u8 ((kK:Nat):Int)),(6,.bool false),(7,.bool true),(8,.pointer (some ⟨Eh,0,none⟩)),(18,.agg #[.bool (decide (m4<0)),.slice A6 (limbs (Int.natAbs m4)).length c7,.int .i64 e5]),(20,.agg #[.bool (decide (m11<0)),.slice Et (limbs (Int.natAbs m11)).length c14,.int .i64 e12])] (Pl.aa rfl (Pl.aa rfl (Pl.aa rfl (Pl.aa rfl (Pl.aa rfl (Pl.aa rfl Pl.aA)))))) ?_
       exact Ac _ _ ⟨m4,e5,A6,c7,m11,e12,Et,c14,Eh,(Pl.Ex.trans aP (Pl.Ex.trans aM aH)),(Un.below u8 (Pl.Ex.trans aM aH)),d9,(Un.below Ff aH),OO,iI,(by omega),rfl⟩
     · refine Pl.aU (z:=.agg #[.bool false,.slice none 0 0,.int .i64 0]) (by kernel_rfl) rfl rfl rfl rfl (fun Y hY=>Pl.Ex.trans bS hY) ?_
       intro Eh w7 aH BZ iI
       have FW:=Pl.Cb.lt iI
       have iU:=Pl.Ex.size aH
       replace iI:Pl.Cb w7 Eh 26 [.bool false,.slice none 0 0,.int .i64 0]:=iI
       have bE:=Pl.Ex.trans bS aH
       refine Pl.af ?_
       refine Pl.aW [(2,.int .u8 ((kK:Nat):Int)),(6,.bool false),(7,.bool true),(9,.pointer (some ⟨Eh,0,none⟩)),(18,.agg #[.bool (decide (m4<0)),.slice A6 (limbs (Int.natAbs m4)).length c7,.int .i64 e5]),(20,.agg #[.bool (decide (m11<0)),.slice Et (limbs (Int.natAbs m11)).length c14,.int .i64 e12])] (Pl.aa rfl (Pl.aa rfl (Pl.aa rfl (Pl.aa rfl (Pl.aa rfl (Pl.aa rfl Pl.aA)))))) ?_
       exact z8 _ _ ⟨m4,e5,A6,c7,m11,e12,Et,c14,Eh,(Pl.Ex.trans aP (Pl.Ex.trans aM aH)),(Un.below u8 (Pl.Ex.trans aM aH)),d9,(Un.below Ff aH),OO,iI,(by omega),rfl⟩
   · refine Pl.aU (z:=.agg #[.bool false,.slice none 0 0,.int .i64 0]) (by kernel_rfl) rfl rfl rfl rfl (fun Y hY=>Pl.Ex.trans hS5 hY) ?_
     intro rM w6 aM EF jE
     have jA:=Pl.Cb.lt jE
     have jr:=Pl.Ex.size aM
     replace jE:Pl.Cb w6 rM 26 [.bool false,.slice none 0 0,.int .i64 0]:=jE
     have bS:=Pl.Ex.trans hS5 aM
     refine Pl.af ?_
     refine Pl.aW [(2,.int .u8 ((kK:Nat):Int)),(6,.bool false),(7,.bool true),(8,.pointer (some ⟨rM,0,none⟩)),(18,.agg #[.bool (decide (m4<0)),.slice A6 (limbs (Int.natAbs m4)).length c7,.int .i64 e5]),(19,.agg #[.bool qy,.slice Ay oP.length cy,.int .i64 qA])] (Pl.aa rfl (Pl.aa rfl (Pl.aa rfl (Pl.aa rfl (Pl.aa rfl (Pl.aa rfl Pl.aA)))))) ?_
     exact Ai _ _ ⟨m4,e5,A6,c7,rM,(Pl.Ex.trans aP aM),(Un.below u8 aM),d9,jE,(by omega),rfl⟩
   · refine Pl.aU (z:=.agg #[.bool false,.slice none 0 0,.int .i64 0]) (by kernel_rfl) rfl rfl rfl rfl (fun Y hY=>Pl.Ex.trans hS5 hY) ?_
     intro rM w6 aM EF jE
     have jA:=Pl.Cb.lt jE
     have jr:=Pl.Ex.size aM
     replace jE:Pl.Cb w6 rM 26 [.bool false,.slice none 0 0,.int .i64 0]:=jE
     have bS:=Pl.Ex.trans hS5 aM
     refine Pl.af ?_
     refine Pl.aW [(2,.int .u8 ((kK:Nat):Int)),(6,.bool false),(7,.bool true),(9,.pointer (some ⟨rM,0,none⟩)),(18,.agg #[.bool (decide (m4<0)),.slice A6 (limbs (Int.natAbs m4)).length c7,.int .i64 e5]),(19,.agg #[.bool qy,.slice Ay oP.length cy,.int .i64 qA])] (Pl.aa rfl (Pl.aa rfl (Pl.aa rfl (Pl.aa rfl (Pl.aa rfl (Pl.aa rfl Pl.aA)))))) ?_
     exact Ah _ _ ⟨m4,e5,A6,c7,rM,(Pl.Ex.trans aP aM),(Un.below u8 aM),d9,jE,(by omega),rfl⟩
 · refine Pl.aU (z:=.agg #[.bool false,.slice none 0 0,.int .i64 0]) (by kernel_rfl) rfl rfl rfl rfl (fun Y hY=>Pl.Ex.trans dP hY) ?_
   intro N3 w5 aP jP aL
   have iJ:=Pl.Cb.lt aL
   have jY:=Pl.Ex.size aP
   replace aL:Pl.Cb w5 N3 26 [.bool false,.slice none 0 0,.int .i64 0]:=aL
   have hS5:=Pl.Ex.trans dP aP
   refine Pl.af ?_
   refine Pl.cB [1,5] 4 (by kernel_rfl) (by kernel_rfl) (by kernel_rfl) (Pl.aj ?_ (Pl.aj ?_ Pl.aJ))
   · refine Pl.ah rfl rfl rfl rfl rfl (fun u X=>Pl.enters Tryz.func38 (by kernel_rfl) rfl u X) ?_
     refine Calls.mono (dF _ _ _ _ _ _ (U.below zM (Pl.Ex.trans hE1 (Pl.Ex.trans hE2 (Pl.Ex.trans aO (Pl.Ex.trans aR aP))))) 8 (by decide)) ?_
     rintro e w6 ⟨v4,rfl,hv4,aM⟩
     rw [CJ] at hv4
     replace hv4:=Dn.le hv4 (Nat.le_refl 8) (show (-200:Int) ≤ -200 by decide) (show _≤(456:Int) by decide)
     obtain ⟨m5,e6,A7,c8,rfl,u9,fC⟩:=hv4
     have sW:=fC.lo
     have sZ:=fC.hi
     have jr:=Pl.Ex.size aM
     have bS:=Pl.Ex.trans hS5 aM
     refine ⟨_,rfl,bS,?_⟩
     refine Pl.af ?_
     refine Pl.aW [(2,.int .u8 ((kK:Nat):Int)),(6,.bool false),(7,.bool true),(8,.pointer (some ⟨N3,0,none⟩)),(18,.agg #[.bool (decide (m5<0)),.slice A7 (limbs (Int.natAbs m5)).length c8,.int .i64 e6]),(19,.agg #[.bool qy,.slice Ay oP.length cy,.int .i64 qA])] (Pl.aa rfl (Pl.aa rfl (Pl.aa rfl (Pl.aa rfl (Pl.aa rfl (Pl.aa rfl Pl.aA)))))) ?_
     exact Ai _ _ ⟨m5,e6,A7,c8,N3,(Pl.Ex.trans aP aM),u9,fC,(Pl.Cb.ex aL aM),(by omega),rfl⟩
   · refine Pl.aU (z:=.agg #[.bool false,.slice none 0 0,.int .i64 0]) (by kernel_rfl) rfl rfl rfl rfl (fun Y hY=>Pl.Ex.trans hS5 hY) ?_
     intro N4 w6 aM iG aF
     have fE:=Pl.Cb.lt aF
     have jr:=Pl.Ex.size aM
     replace aF:Pl.Cb w6 N4 26 [.bool false,.slice none 0 0,.int .i64 0]:=aF
     have bS:=Pl.Ex.trans hS5 aM
     refine Pl.af ?_
     refine Pl.aW [(2,.int .u8 ((kK:Nat):Int)),(6,.bool false),(7,.bool true),(8,.pointer (some ⟨N3,0,none⟩)),(9,.pointer (some ⟨N4,0,none⟩)),(17,.agg #[.bool bx0,.slice Ax lu.length cx,.int .i64 oM]),(19,.agg #[.bool qy,.slice Ay oP.length cy,.int .i64 qA])] (Pl.aa rfl (Pl.aa rfl (Pl.aa rfl (Pl.aa rfl (Pl.aa rfl (Pl.aa rfl (Pl.aa rfl Pl.aA))))))) ?_
     exact Ae _ _ ⟨N3,N4,(Pl.Ex.trans aP aM),(Pl.Cb.ex aL aM),(by omega),aF,(by omega),(by omega),rfl⟩
 · refine Pl.aU (z:=.agg #[.bool false,.slice none 0 0,.int .i64 0]) (by kernel_rfl) rfl rfl rfl rfl (fun Y hY=>Pl.Ex.trans dP hY) ?_
   intro N3 w5 aP jP aL
   have iJ:=Pl.Cb.lt aL
   have jY:=Pl.Ex.size aP
   replace aL:Pl.Cb w5 N3 26 [.bool false,.slice none 0 0,.int .i64 0]:=aL
   have hS5:=Pl.Ex.trans dP aP
   refine Pl.af ?_
   refine Pl.cB [1,4] 4 (by kernel_rfl) (by kernel_rfl) (by kernel_rfl) (Pl.aj ?_ (Pl.aj ?_ Pl.aJ))
   · refine Pl.ah rfl rfl rfl rfl rfl (fun u X=>Pl.enters Tryz.func38 (by kernel_rfl) rfl u X) ?_
     refine Calls.mono (dF _ _ _ _ _ _ (U.below zM (Pl.Ex.trans hE1 (Pl.Ex.trans hE2 (Pl.Ex.trans aO (Pl.Ex.trans aR aP))))) 8 (by decide)) ?_
     rintro e w6 ⟨v4,rfl,hv4,aM⟩
     rw [CJ] at hv4
     replace hv4:=Dn.le hv4 (Nat.le_refl 8) (show (-200:Int) ≤ -200 by decide) (show _≤(456:Int) by decide)
     obtain ⟨m5,e6,A7,c8,rfl,u9,fC⟩:=hv4
     have sW:=fC.lo
     have sZ:=fC.hi
     have jr:=Pl.Ex.size aM
     have bS:=Pl.Ex.trans hS5 aM
     refine ⟨_,rfl,bS,?_⟩
     refine Pl.af ?_
     refine Pl.aW [(2,.int .u8 ((kK:Nat):Int)),(6,.bool false),(7,.bool true),(9,.pointer (some ⟨N3,0,none⟩)),(18,.agg #[.bool (decide (m5<0)),.slice A7 (limbs (Int.natAbs m5)).length c8,.int .i64 e6]),(19,.agg #[.bool qy,.slice Ay oP.length cy,.int .i64 qA])] (Pl.aa rfl (Pl.aa rfl (Pl.aa rfl (Pl.aa rfl (Pl.aa rfl (Pl.aa rfl Pl.aA)))))) ?_
     exact Ah _ _ ⟨m5,e6,A7,c8,N3,(Pl.Ex.trans aP aM),u9,fC,(Pl.Cb.ex aL aM),(by omega),rfl⟩
   · refine Pl.aU (z:=.agg #[.bool false,.slice none 0 0,.int .i64 0]) (by kernel_rfl) rfl rfl rfl rfl (fun Y hY=>Pl.Ex.trans hS5 hY) ?_
     intro N4 w6 aM iG aF
     have fE:=Pl.Cb.lt aF
     have jr:=Pl.Ex.size aM
     replace aF:Pl.Cb w6 N4 26 [.bool false,.slice none 0 0,.int .i64 0]:=aF
     have bS:=Pl.Ex.trans hS5 aM
     refine Pl.af ?_
     refine Pl.aW [(2,.int .u8 ((kK:Nat):Int)),(6,.bool false),(7,.bool true),(8,.pointer (some ⟨N4,0,none⟩)),(9,.pointer (some ⟨N3,0,none⟩)),(17,.agg #[.bool bx0,.slice Ax lu.length cx,.int .i64 oM]),(19,.agg #[.bool qy,.slice Ay oP.length cy,.int .i64 qA])] (Pl.aa rfl (Pl.aa rfl (Pl.aa rfl (Pl.aa rfl (Pl.aa rfl (Pl.aa rfl (Pl.aa rfl Pl.aA))))))) ?_
     exact Ae _ _ ⟨N4,N3,(Pl.Ex.trans aP aM),aF,(by omega),(Pl.Cb.ex aL aM),(by omega),(by omega),rfl⟩
end Go.Proofs.YtdpmbgomcjnohaaGreatDoor
namespace Go.Proofs.YtdpmbgomcjnohaaGreatDoor
open Go.ChangeShapes Go.WideShapes Go.ChangeAt Go.RowKit
set_option linter.all false
set_option maxRecDepth 100000
set_option maxHeartbeats 8000000
theorem vo:Tryz.prog.cellsOf 24 = 2:=by kernel_rfl
theorem uo:Tryz.prog.cellsOf 22 = 1:=by kernel_rfl
theorem vw {H:Type} {enc:TypeId × Value→H} {W:World} {m:Nat} {c0 c1:Value} {y:DataW H × List MemPlace} (h:DataW.trod enc Tryz.prog W 0 (fun _=>true) true m 24 [c0,c1]=some y) :
  ∃ (s:Bool) (A:Option Addr) (c:Nat) (xs:List Nat),c0 = .bool s∧c1 = .slice A xs.length c∧U W (.slice A xs.length c) xs:=by
 obtain ⟨ys,n,_,rfl,hl,hlen,hf⟩:=DataW.trod_struct Tryz.underlying24 h
 match ys,hlen,hf with
 | [y0,y1],_,hf =>
  have h0:=hf 0 _ rfl
  have h1:=hf 1 _ rfl
  have cb:Tryz.prog.cellsOf 4 = 1:=by kernel_rfl
  simp [uo,cb] at h0 h1
  obtain ⟨s,e0,_⟩:=DataW.trod_bool Tryz.underlying4 h0
  obtain ⟨xs,u⟩:=kJ h1
  obtain ⟨A,c,rfl,hu⟩:=id u
  simp at e0
  exact ⟨s,A,c,xs,e0,rfl,u⟩
end Go.Proofs.YtdpmbgomcjnohaaGreatDoor
namespace Go.Proofs.YtdpmbgomcjnohaaGreatDoor
open Go.ChangeShapes Go.WideShapes Go.ChangeAt Go.RowKit
set_option linter.all false
set_option maxRecDepth 100000
set_option maxHeartbeats 8000000
abbrev jM:List (String × DataW Unit):=[("math/bits.deBruijn32tab",Rows.laid_math_bits_deBruijn32tab),("ziggurat/ntt.fields",Rows.laid_ziggurat_ntt_fields)]
theorem qE (os:Os) (args:Array Value):laidMetH Tryz.prog jM ((World.laidAll Tryz.prog os jM).forCall (fun _ _=>0) ⟨#[],args,[]⟩).memory:=by
 rw [MakeChecks.laidMetH_plain _ _ _ (by kernel_rfl)]
 exact laidMet_laidAll _ (by kernel_rfl) (by kernel_rfl)
theorem Qu:Tryz.prog.globalNamed "math/bits.deBruijn32tab" = some 0:=by kernel_rfl
theorem Qv:(Tryz.prog.globals[0]?).map (·.type)=some 121 := by kernel_rfl
theorem vS:Tryz.prog.cellsOf 5 = 1:=by kernel_rfl
theorem sJ:Tryz.prog.cellsOf 121 = 32:=by kernel_rfl
theorem nk {W:World} (h:laidMetH Tryz.prog jM W):Gt W:=by
 rw [MakeChecks.laidMetH_plain _ _ _ (by kernel_rfl)] at h
 obtain ⟨ps,⟨g0,t0,cs0,f0,p0,q0,hg0,ht0,hv0,hd0,_,_⟩,_⟩:=h
 obtain rfl:=Option.some.inj (Qu.symm.trans hg0)
 obtain rfl:=Option.some.inj (Qv.symm.trans ht0)
 obtain ⟨xs,m1,rfl,hx1,hlen,Y4,hel⟩:=DataW.trod_array Tryz.underlying121 hd0
 rw [sJ] at hlen
 simp only [vS] at hel
 obtain ⟨l⟩:=cs0
 rw [Prod.mk.injEq] at hx1
 have hx2:DataW.agg (AQ.map fun n=>DataW.lit (Lit.int .u8 ((n:Nat):Int)))=DataW.agg (xs.map (·.1)):=hx1.1
 rw [DataW.agg.injEq] at hx2
 have hc:=fun k=>World.var?_cell hg0 hv0 k
 have hall:∀ i,i<32→W.cell? ⟨0,i,none⟩=some (.int .u8 ((lb AQ i:Nat):Int)):=by
  intro i hi
  have e:=hel i hi
  have hxi:i<xs.length:=by omega
  have J8:i<l.length:=by have:l.length=32:=hlen;omega
  have hdi:i<AQ.length:=hi
  rw [List.getElem?_eq_getElem hxi,Nat.mul_one,List.drop_eq_getElem_cons J8] at e
  simp only [List.take_succ_cons,List.take_zero] at e
  obtain ⟨a,e0,hy,_⟩:=DataW.trod_int Tryz.underlying5 e
  have h1:=congrArg (fun q=>q[i]?) hx2
  simp only [List.getElem?_map,List.getElem?_eq_getElem hxi,List.getElem?_eq_getElem hdi,Option.map_some,Option.some.injEq,hy,DataW.lit.injEq,Lit.int.injEq,true_and] at h1
  have h2:lb AQ i=AQ[i]:=by unfold lb;rw [List.getElem?_eq_getElem hdi];rfl
  rw [h2,h1]
  have h3:=hc i
  simp only [List.cons.injEq,and_true] at e0
  rw [← e0]
  exact h3.trans (by simp [J8])
 exact ⟨World.block_lt_of_cell? W ⟨0,0,none⟩ (hall 0 (by decide)),hall⟩
end Go.Proofs.YtdpmbgomcjnohaaGreatDoor
namespace Go.Proofs.YtdpmbgomcjnohaaGreatDoor
open Go.ChangeShapes Go.WideShapes Go.ChangeAt Go.RowKit
set_option linter.all false
set_option maxRecDepth 100000
set_option maxHeartbeats 8000000
theorem oW {H:Type} {enc:TypeId × Value→H} {W:World} {base:Nat} {v:Value} {d:DataW H} {ps:List MemPlace} (hval:Value.okWide Tryz.prog W .any base 26 v) (h:DataW.Trod enc Tryz.prog W 0 (fun _=>true) true 26 v d ps) :
  ∃ (s:Bool) (A:Option Addr) (c:Nat) (xs:List Nat) (e:Int),v = .agg #[.bool s,.slice A xs.length c,.int .i64 e]∧U W (.slice A xs.length c) xs:=by
 obtain ⟨cs,rfl,hsz⟩:=okWide_struct Tryz.underlying26 hval
 rw [show Tryz.prog.cellsOf 26 = 3 by kernel_rfl] at hsz
 obtain ⟨l⟩:=cs
 match l,hsz with
 | [c0,c1,c2],_ =>
  obtain ⟨fuel,hf⟩:=h
  obtain ⟨ys,n,_,hq9,hl,hlen,hf⟩:=DataW.trod_struct Tryz.underlying26 hf
  match ys,hlen,hf with
  | [y0,y1],_,hf =>
   have h0:=hf 0 _ rfl
   have h1:=hf 1 _ rfl
   simp [vo,show Tryz.prog.cellsOf 3 = 1 by kernel_rfl] at h0 h1
   obtain ⟨s,A,c,xs,rfl,rfl,u⟩:=vw h0
   obtain ⟨e,e1,_⟩:=DataW.trod_int Tryz.underlying3 h1
   obtain rfl:=(List.cons.inj (show [c2]=[Value.int .i64 e] from e1)).1
   exact ⟨s,A,c,xs,e,rfl,u⟩
end Go.Proofs.YtdpmbgomcjnohaaGreatDoor
namespace Go.Proofs.YtdpmbgomcjnohaaGreatDoor
open Go.ChangeShapes Go.WideShapes Go.ChangeAt Go.RowKit
set_option linter.all false
set_option maxRecDepth 100000
set_option maxHeartbeats 8000000
theorem Dp (os:Os) (started:os.Started) (H:Type) (enc:TypeId × Value→H) :
  ReturnsInHanded {} Tryz.checked os 6 .any (fun w args=>(Rows.dyadRationalsSpec.pre enc Tryz.prog Tryz.f6 [] false w args∧laidMetH Tryz.prog jM w)∧sizedMet enc Tryz.prog Tryz.f6 (OpenSpec.ofChange Rows.dyadRationalsSpec) false w args)
   (Rows.dyadRationalsSpec.post enc Tryz.prog Tryz.f6 false true false false):=by
 refine returnsInHanded_of_change_and (C:=Tryz.checked) (X:=fun w _=>laidMetH Tryz.prog jM w) (fun _ _ _ hh h=>h.of_heap hh) own started (by kernel_rfl) Tryz.func6
  (ChangeSpec.witness_shaped (enc:=enc) (C:=Tryz.checked) (os:=os) (X:=fun w _=>laidMetH Tryz.prog jM w) false (World.laidAll Tryz.prog os jM) #[.agg #[.bool false,.slice none 0 0,.int .i64 0],.agg #[.bool false,.slice none 0 0,.int .i64 0],.int .u8 0] 8 (World.laidAll_os _ _ _) (World.shaped_of_ZipB (by kernel_rfl) (by kernel_rfl)) (by kernel_rfl) (by kernel_rfl) (by kernel_rfl) (qE os _)) ?_
 intro W base args ds gs before hval0 hW _ _ hL _
 have hval:∀ (j:Nat) t v,Tryz.f6.params[j]?=some t→args[j]?=some v→Value.okWide Tryz.prog W .any base t v:=hval0
 have hW':=hW
 obtain ⟨p,q,D9,hV,rfl,hfz,hnd⟩:=hW
 have hA:DataW.TrodAll enc Tryz.prog W 0 (fun _=>true) true Tryz.f6.params.toList args.toList ds p:=D9
 rw [Tryz.params6] at hA hval
 clear D9 hval0
 obtain ⟨v0,vs0,d0,ds0,p0,q0,EE,rfl,rfl,h0,r0⟩:=trodAll_cons hA
 obtain ⟨v1,vs1,d1,ds1,p1,q1,vT,rfl,rfl,h1,r1⟩:=trodAll_cons r0
 obtain ⟨v2,vs2,d2,ds2,p2,q2,xD,rfl,rfl,h2,r2⟩:=trodAll_cons r1
 obtain ⟨hn1,rfl,rfl⟩:=trodAll_nil r2
 subst hn1
 subst xD
 subst vT
 obtain rfl:args=#[v0,v1,v2]:=by cases args;simp_all
 obtain ⟨rfl,rfl⟩:=trodVars_none hV
 obtain ⟨s0,A0,c0,x0,e0,hv0,u0⟩:=oW (hval 0 26 v0 rfl rfl) h0
 subst hv0
 obtain ⟨s1,A1,c1,x1,e1,hv1,u1⟩:=oW (hval 1 26 v1 rfl rfl) h1
 subst hv1
 obtain ⟨z2,rfl,rfl,rfl,hz2⟩:=open_int Tryz.underlying5 (hval 2 5 v2 rfl rfl) h2
 have hb2:=bounds_u8 hz2
 obtain ⟨n2,rfl⟩:=Int.eq_ofNat_of_zero_le (show 0≤z2 by omega)
 refine (EI W (nk hL) s0 A0 c0 x0 e0 u0 s1 A1 c1 x1 e1 u1 n2 (by omega)).mono fun e W' ⟨he,hB⟩=>?_
 subst he
 exact ⟨_,rfl,qC hW' rfl (by rw [Tryz.params6];decide +kernel) rfl rfl rfl rfl hB⟩
theorem EK:Rows.DyadRationalsSaid :=
 OpenClaim.holds_of_wide 6 Tryz.f6 rfl rfl rfl rfl rfl rfl rfl ⟨rfl,rfl,rfl,rfl,rfl⟩ rfl rfl rfl rfl rfl (by kernel_rfl) Tryz.func6 (by kernel_rfl)
  (of_decide_eq_true (by kernel_rfl)) (by unfold Func.isWrapper;first | (rw [if_pos (by decide +kernel)];kernel_rfl) | (rw [if_neg (by decide +kernel)];exact ⟨rfl,rfl⟩))
  (fun os started H enc _=>Dp os started H enc)
theorem dyadRationals_holds:Rows.DyadRationalsCardSaid :=
 Claim7.holds_tied_plain_at .later [] [.data,.wider] true Rows.dyadRationalsCard.stood.harness false
  EK (fun _ h=>by cases h) (by kernel_rfl) (fun _ h=>by cases h) dyadRationals_row_tie rfl ⟨rfl,rfl⟩ (by kernel_rfl) rfl
  (fun f fn hf hfn=>by
   obtain rfl:f = 6 := Option.some.inj ((show Tryz.prog.funcNamed "ziggurat/zigguratlaw10.DyadRationals" = some 6 by kernel_rfl).symm.trans hf) |>.symm
   obtain rfl:fn=Tryz.f6 := (Option.some.inj (Tryz.func6.symm.trans hfn)).symm
   exact ⟨by kernel_rfl,fun j t ht=>by
    rw [Tryz.params6] at ht
    have hm:t∈[26,26,5]:=by simpa using Array.mem_of_getElem? ht
    have hall:([26,26,5].all fun u=>!Tryz.prog.wantsStandIn u)=true:=by kernel_rfl
    exact (show Tryz.prog.wantsStandIn t=false by simpa using List.all_eq_true.1 hall t hm)⟩)
  (by kernel_rfl)
end Go.Proofs.YtdpmbgomcjnohaaGreatDoor
