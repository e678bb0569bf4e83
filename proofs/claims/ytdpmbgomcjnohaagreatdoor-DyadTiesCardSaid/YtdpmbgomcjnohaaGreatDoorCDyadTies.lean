/- DyadTies, and what it leans on beyond the base. -/
import Derived.Test.YtdpmbgomcjnohaaGreatDoorBaa
import Derived.Test.YtdpmbgomcjnohaaGreatDoorBab
import Derived.Test.YtdpmbgomcjnohaaGreatDoorBag
import Derived.Test.YtdpmbgomcjnohaaGreatDoorBad
import Derived.Test.YtdpmbgomcjnohaaGreatDoorBaj
import Derived.Test.YtdpmbgomcjnohaaGreatDoorBai
import Derived.Test.YtdpmbgomcjnohaaGreatDoorBap
import Derived.Test.YtdpmbgomcjnohaaGreatDoorBaq
import Derived.Test.YtdpmbgomcjnohaaGreatDoorBas
import Derived.Test.YtdpmbgomcjnohaaGreatDoorBar
import Derived.Test.YtdpmbgomcjnohaaGreatDoorBac
import Derived.Test.YtdpmbgomcjnohaaGreatDoorBat
import Derived.Test.YtdpmbgomcjnohaaGreatDoorBav
import Derived.Test.YtdpmbgomcjnohaaGreatDoorBau
import Derived.Test.YtdpmbgomcjnohaaGreatDoorBbb
import Derived.Test.YtdpmbgomcjnohaaGreatDoorBba
import Derived.Test.YtdpmbgomcjnohaaGreatDoorBbc
import Derived.Test.YtdpmbgomcjnohaaGreatDoorBam
import Derived.Test.YtdpmbgomcjnohaaGreatDoorBbe
import Derived.Deep.MidRow
import Derived.Deep.WholeRow
import Derived.Laws.CopyOwn
import Derived.WalkKit
import Derived.SevenTiedAt
import Derived.LaidMore
import Derived.Stop.Joined
import Derived.JoinedOf
import Derived.JoinedAt
import Derived.Lib.SmallJoins
import Derived.Deep.RegionHeld3
import Derived.Scope
import Derived.Lib.SlTrimSet
import Derived.Lib.Bytealg
import Derived.Laws.Concat
import Derived.Lay
import Derived.LaidOnce

namespace Go.Proofs.YtdpmbgomcjnohaaGreatDoor.Pl
open Go
set_option linter.all false
set_option maxRecDepth 100000
set_option maxHeartbeats 8000000
/-! A function without loops, walked with its frame as a list of what is known. -/
section
variable {P:Program} {Q:Exit→Act→World→Prop} {n:Nat} {ds:List Deferred} {cs:List Code} {l:List (Nat × Value)} {w:World} {x y:Code}
theorem aW {L:List Oper} {S:World→Prop} {f M:Nat} {Q:Exit→Act→World→Prop} (l':List (Nat × Value)) (hl:EB l l') (h:G P L S Q n ds f M l' w):G P L S Q n ds f M l w:=fun a listed ha hL hS=>h a listed (ha.less (rJ hl)) hL hS
theorem fP {L:List Oper} {S:World→Prop} {g M:Nat} {Q:Exit→Act→World→Prop} (f e:Nat) (R:List (Nat × Value)→World→Prop) (h1:∀ l' w',R l' w'→G P L S Q n ds f e l' w') (h2:(∀ l' w',R l' w'→G P L S Q n ds f e l' w')→G P L S Q n ds g M l w):G P L S Q n ds g M l w:=h2 h1
open Classical in
end
section
variable {P:Program} {L:List Oper} {S:World→Prop} {K:List (Nat × Value)→World→Prop} {k:Bool} {i m d:Nat} {o:Oper} {r:List (Bool × Nat × Nat)} {l:List (Nat × Value)} {w w':World} {v:Value}
end
end Go.Proofs.YtdpmbgomcjnohaaGreatDoor.Pl
namespace Go.Proofs.YtdpmbgomcjnohaaGreatDoor.Pl
open Go
set_option linter.all false
set_option maxRecDepth 100000
set_option maxHeartbeats 8000000
/-! Steps for any program: numbers, slices, memory. -/
section
variable {P:Program} {T:TypeId} {x y:Operand} {k k':IntKind} {a b c:Int} {v:Bool}
theorem wD (h0:b≠0) (h:a.tmod b=c) (X:World):Bn P .rem T x y (.int k a) (.int k b) X = .ok (.int k c) X:=by
 subst h;simp [Bn,eqGuard,binOp,Op.intDiv,h0]
end
section
variable {P:Program} {T:TypeId} {x y:Operand} {a b c:Nat}
end
/-! Operations whose value follows from what is known alone. -/
section
variable {P:Program} {L:List Oper} {S:World→Prop} {K:List (Nat × Value)→World→Prop} {k:Bool} {i m d:Nat} {o:Oper} {r:List (Bool × Nat × Nat)} {l:List (Nat × Value)} {w w':World} {v:Value}
end
end Go.Proofs.YtdpmbgomcjnohaaGreatDoor.Pl
namespace Go.Proofs.YtdpmbgomcjnohaaGreatDoor
open Go.ChangeShapes Go.WideShapes Go.ChangeAt Go.RowKit
set_option linter.all false
set_option maxRecDepth 100000
set_option maxHeartbeats 8000000
theorem laidOut:laidOutB Tryz.prog=true:=by kernel_rfl
theorem rY:Tryz.prog.cellsOf 67 = 1:=by kernel_rfl
theorem gZ {H:Type} {enc:TypeId × Value→H} {W W':World} {sp:Nat→Bool} (hB:Ext W W'):∀ {ts:List TypeId} {vs:List Value} {ds:List (DataW H)} {ps:List MemPlace},
  (∀ t∈ts,Tryz.prog.readableRec t=true∧t<Tryz.prog.types.size)→DataW.TrodAll enc Tryz.prog W 0 (fun _=>true) true ts vs ds ps→(∀ p∈ps,p.block<W.heap.size)→(∀ p∈ps,sp p.block=true)→DataW.TrodAll enc Tryz.prog W' 0 sp true ts vs ds ps
 | [],[],[],_,_,h,_,_=>h
 | t::_,_::_,_::_,_,hT,⟨p,q,h1,h2,e⟩,hlt,hs=>⟨p,q,
  WideElems.Trod_stays laidOut (hT t (List.mem_cons_self ..)).1 (hT t (List.mem_cons_self ..)).2 h1 (fun x hx=>Below.same hB (hlt x (by rw [e];exact List.mem_append_left _ hx))) (fun x hx=>hs x (by rw [e];exact List.mem_append_left _ hx)),
  gZ hB (fun t ht=>hT t (List.mem_cons_of_mem _ ht)) h2 (fun x hx=>hlt x (by rw [e];exact List.mem_append_right _ hx)) (fun x hx=>hs x (by rw [e];exact List.mem_append_right _ hx)),e⟩
theorem qC {H:Type} {enc:TypeId × Value→H} {f:Func} {s:ChangeSpec} {apart fresh handsOn again:Bool} {W W':World} {args:Array Value} {ds gs:List (DataW H)} {before:List MemPlace}
  (hW:DataW.Whole enc Tryz.prog f.params.toList s.vars apart W args.toList ds gs before) (hv:s.vars=[]) (hT:∀ t∈f.params.toList,Tryz.prog.readableRec t=true∧t<Tryz.prog.types.size)
  (hres:f.resultTypes=#[4]) (hfn:(s.fn H (ds++gs)).results=[.lit (.bool true)]) (hfa:(s.fn H (ds++gs)).args=ds) (Qr:(s.fn H (ds++gs)).vars=[]) (hB:Ext W W') :
  s.post enc Tryz.prog f apart fresh handsOn again W args (.bool true) W':=by
 have hlt:∀ p∈before,p.block<W.heap.size:=fun p hp=>hW.lt p hp
 have hold:∀ p∈before,(fun b=>decide (b<W.heap.size)) p.block=true:=fun p hp=>by simpa using hlt p hp
 have hres':∀ (b:Nat) (sp:Nat→Bool) (hd:Bool),DataW.TrodAll enc Tryz.prog W' b sp hd f.resultTypes.toList ((Value.bool true).resultList f.resultTypes.size) (s.fn H (ds++gs)).results []:=by
  intro b sp hd
  rw [hres,hfn]
  exact trodAll_mk1 (shut_bool Tryz.underlying4 _)
 have hW2:=hW
 obtain ⟨p,q,hA,hV,hpq,hz,hn⟩:=hW
 rw [hv] at hV
 obtain ⟨_,rfl⟩:=trodVars_none hV
 rw [List.append_nil] at hpq
 subst hpq
 have hargs:∀ sp:Nat→Bool,(∀ p'∈before,sp p'.block=true)→DataW.TrodAll enc Tryz.prog W' 0 sp true f.params.toList args.toList (s.fn H (ds++gs)).args before:=fun sp hs=>by
  rw [hfa];exact gZ hB hT hA hlt hs
 have hvars:∀ sp:Nat→Bool,DataW.TrodVars enc Tryz.prog W' sp s.vars (s.fn H (ds++gs)).vars []:=fun sp=>by rw [hv,Qr];exact rfl
 refine ⟨ds,gs,before,[],before,[],hW2,hres' _ _ _,hargs _ hold,hvars _,World.keptBut_mono (fun p hp=>⟨hp,?_⟩) (Below.frame hB (·∈before)),fun _=>?_⟩
 · simpa using hp
 · refine ⟨ok_one hres rfl (okWide_bool_mk Tryz.underlying4 _),_,_,([]++before)++[],⟨[]++before,[],trodAll_append (hargs _ (fun _ _=>rfl)) (hres' _ _ _),hvars _,rfl,?_,?_⟩,?_⟩
   · intro b off hp
     have hin:MemPlace.cell b off∈before:=by simpa using hp
     rw [Below.frozen hB (hlt _ hin)]
     exact hz b off hin
   · intro ha
     have:=hn ha
     simpa using this
   · intro p hp _
     simpa using hp
end Go.Proofs.YtdpmbgomcjnohaaGreatDoor
namespace Go.Proofs.YtdpmbgomcjnohaaGreatDoor
open Go.ChangeShapes Go.WideShapes Go.ChangeAt Go.RowKit
set_option linter.all false
set_option maxRecDepth 100000
set_option maxHeartbeats 8000000
theorem kJ {H:Type} {enc:TypeId × Value→H} {W:World} {fuel:Nat} {v:Value} {y:DataW H × List MemPlace} (hf:DataW.trod enc Tryz.prog W 0 (fun _=>true) true fuel 22 [v]=some y) :
  ∃ xs:List Nat,U W v xs:=by
 rcases open_ints Tryz.underlying22 Tryz.underlying67 rY hf with ⟨hcs,hx⟩ | ⟨a,len,cap',zs,hcs,_,hl,hm,hz,hx,hcell,hwz⟩
 · simp at hcs
   subst hcs
   exact ⟨[],U.AU _ _ _⟩
 · simp at hcs
   subst hcs
   simp only [if_true] at hz
   have hlen:((zs.take len).map Int.toNat).length=len:=by simp;omega
   have hb:∀ z∈zs,0≤z∧z<4294967296:=fun z hzz=>by have:=bounds_u32 (hwz z hzz);omega
   refine ⟨(zs.take len).map Int.toNat,some a,cap',by rw [hlen],⟨by rw [hlen];exact hl,by rw [hlen];unfold maxLen at hm;omega⟩,?_,fun h0=>⟨a,rfl,?_,fun j hj=>?_⟩⟩
   · intro x hx'
     obtain ⟨z,hz1,rfl⟩:=List.mem_map.1 hx'
     have:=hb z (List.mem_of_mem_take hz1)
     omega
   · rw [hlen] at h0
     have hc:=hcell 0 (by omega)
     rw [lX] at hc
     unfold World.cell? at hc
     rcases Nat.lt_or_ge a.block W.heap.size with h | h
     · exact h
     · rw [Array.getElem?_eq_none h] at hc;cases hc
   · rw [hlen] at hj
     have hjz:j<zs.length:=by omega
     have e:lb ((zs.take len).map Int.toNat) j=(zs.getD j 0).toNat:=by
      simp [lb,hj,hjz]
     rw [hcell j hjz,e]
     have hmem:zs.getD j 0∈zs:=by simp [hjz]
     have:=hb _ hmem
     rw [show (((zs.getD j 0).toNat:Nat):Int)=zs.getD j 0 by omega]
end Go.Proofs.YtdpmbgomcjnohaaGreatDoor
namespace Go.Proofs.YtdpmbgomcjnohaaGreatDoor
open Go.RowKit
set_option linter.all false
set_option maxRecDepth 100000
set_option maxHeartbeats 8000000
def gN (xs:List Nat) (k:Nat):Nat:=val (xs.take k)
theorem kW (xs:List Nat) (k:Nat) (hx:∀ x∈xs,x<4294967296):(limbs (gN xs k)).length≤k:=by
 apply lJ
 have:=wE (xs.take k) (fun x h=>hx x (List.mem_of_mem_take h))
 refine Nat.lt_of_lt_of_le this (Nat.pow_le_pow_right (by decide) ?_)
 rw [List.length_take];omega
theorem ni (w:World) (v:Value) (xs:List Nat) (k:Int) (hk0:0≤k) (hk1:k≤1000000000) (h:U w v xs) :
  Calls Tryz.prog 63 #[v,.int .i64 k] w fun e w'=>(∃ u,e = .returned u∧Un w' u (gN xs k.toNat))∧Below w.heap.size w w':=by
 have h':=h
 obtain ⟨A,c,rfl,⟨hc,hm⟩,hx,hr⟩:=h
 clear hr
 by_cases hl:(xs.length:Int)≤k
 · have hu:=fG w _ xs h' (by omega)
   have HT:Hid (xs.take k.toNat=xs):=List.take_of_length_le (by omega)
   have hmin:min (xs.length:Int) k=xs.length:=by omega
   go_enter Tryz.func63,Tryz.ntmps63
   go_wp2_with (go_at_call 100;refine hu.mono ?_;rintro e w' ⟨⟨z,rfl,hz⟩,hB⟩)
   go_ret
   exact ⟨⟨_,rfl,by rw [Un,gN,HT.out];exact hz⟩,hB⟩
 · obtain ⟨k,rfl⟩:=Int.eq_ofNat_of_zero_le hk0
   have hu:=fG w _ _ (h'.take (k:=k) (c':=c) (by omega) (by omega)) (by rw [List.length_take];omega)
   have hmin:min (xs.length:Int) (k:Int)=k:=by omega
   go_enter Tryz.func63,Tryz.ntmps63
   go_wp2_with (go_at_call 100;refine hu.mono ?_;rintro e w' ⟨⟨z,rfl,hz⟩,hB⟩)
   go_ret
   exact ⟨⟨_,rfl,by rw [Un,gN,Int.toNat_natCast];exact hz⟩,hB⟩
end Go.Proofs.YtdpmbgomcjnohaaGreatDoor
namespace Go.Proofs.YtdpmbgomcjnohaaGreatDoor
open Go.RowKit
set_option linter.all false
set_option maxRecDepth 100000
set_option maxHeartbeats 8000000
theorem uh (w:World) (v:Value) (xs:List Nat) (k:Int) (h:U w v xs) (hk0:0≤k) (hk1:k≤1000000000) (n:Nat) (hn:gN xs k.toNat=n) :
  Calls Tryz.prog 63 #[v,.int .i64 k] w fun e w'=>∃ u,e = .returned u∧Un w' u n∧Ext w w':=by
 subst hn
 exact (ni w v xs k hk0 hk1 h).mono fun e w' ⟨⟨u,he,hu⟩,hb⟩=>⟨u,he,hu,hb⟩
end Go.Proofs.YtdpmbgomcjnohaaGreatDoor
namespace Go.Proofs.YtdpmbgomcjnohaaGreatDoor
open Go.RowKit
set_option linter.all false
set_option maxRecDepth 100000
set_option maxHeartbeats 8000000
theorem oG (w:World) (va vb:Value) (jw bs:List Nat) (na nb:Nat) (ha:U w va jw) (hb:U w vb bs) (hna:jw.length=na) (hnb:bs.length=nb) (hn1:na≤1000) (hn2:nb≤1000) :
  Calls Tryz.prog 143 #[va,vb] w fun e w'=>(∃ u,e = .returned u∧Un w' u (val jw*val bs))∧Ext w w':=by
 obtain ⟨A,ca,rfl,⟨hca,hma⟩,hxl,OP⟩:=id ha
 obtain ⟨A2,cb,rfl,⟨hcb,hmb⟩,hyl,OQ⟩:=id hb
 have HL:Hid (jw.length=na∧bs.length=nb):=⟨hna,hnb⟩
 have VO:=Lib.hid (fun k=>kX bs k)
 have VP:=Lib.hid (fun k=>kX jw k)
 have HT2:Hid (bs.take nb=bs∧jw.take na=jw):=⟨by rw [← hnb];exact List.take_length,by rw [← hna];exact List.take_length⟩
 rw [hna] at hca hma OP ⊢
 rw [hnb] at hcb hmb OQ ⊢
 obtain ⟨n,hnn⟩:∃ n,na+nb=n:=⟨_,rfl⟩
 have hni:(na:Int)+(nb:Int)=(n:Int):=by omega
 obtain ⟨i0,hi,hz0,hz1,hz2⟩:=info_parts y7
 obtain ⟨B,hB⟩:∃ B,w.heap.size=B:=⟨_,rfl⟩
 have E9:=Lib.hid hB
 clear ha hb hna hnb
 go_enter Tryz.func143,Tryz.ntmps143
 go_wp2_with (at_make;refine wpList_make_full _ rfl _ _ 22 rfl w.heap.size 67 i0 (.int .u32 0) 1 Tryz.underlying22 hi hz0 hz1 _ _ _ _ n rfl rfl (by omega) (by omega) (by rw [hz2];omega) (by unfold maxLen;omega) (Nat.le_refl _) ?_;intro w1 hown hgrow)
 have ho0:Own w1 w.heap.size (.slice (some ⟨w.heap.size,0,none⟩) n n) (List.replicate n 0):=by
  have:=Own.zeros hown
  rwa [List.length_replicate] at this
 have hE0:Ext w w1:=(Ext.refl w).grown hgrow (Nat.le_refl _) (fun _ h=>by cases h)
 rw [hB] at ho0
 clear hown hgrow hi hz0 hz1 hz2 i0
 have hS0:Hid (Oe bs jw n 0 (List.replicate n 0)):=⟨by simp,fun x hx=>by simp at hx;omega,by simp [jJ,val],fun m _=>oN _ _⟩
 go_wp2
 go_loopw [6] (fun t wr=>∃ (i:Nat) (o:List Nat),i≤na∧t = .int .i64 (i:Nat)∧Hid (Oe bs jw n i o)∧Own wr B (.slice (some ⟨B,0,none⟩) n n) o∧Ext w wr) (fun t _=>na-(intOf t).toNat)
 case atStart=>exact ⟨0,_,Nat.zero_le _,rfl,hS0,ho0,hE0⟩
 case round =>
  clear hS0 ho0 hE0
  obtain ⟨i,o,hib,rfl,HO,hown,hE⟩:=hrel
  by_cases hlt:i<na
  · obtain ⟨ad,rfl,hb1,hcell1⟩:=OP (by omega)
    have hyb:=iV hxl i
    have hty:=VP.out i (by rw [HL.out.1];exact hlt)
    obtain ⟨y,DN⟩:∃ y,lb jw i=y:=⟨_,rfl⟩
    rw [DN] at hyb hty
    have HY:=Lib.hid DN
    have OT:Hid (QA o n i (val o+LB^i*(val (bs.take 0)*y)) 0 o 0):=⟨HO.out.len,HO.out.lt,by decide,by simp [val],fun m _=>rfl⟩
    have Dc:Hid (val (jw.take (i+1))=val (jw.take i)+LB^i*y):=hty
    have hno:Hid (lb o (i+nb)=0):=HO.out.out _ (by rw [HL.out.2];exact Nat.le_refl _)
    clear DN hty
    go_wp2
    go_loopw [8,7] (fun t s wx=>∃ (j:Nat) (o2:List Nat) (cy:Nat),j≤nb∧t = .int .i64 (j:Nat)∧s = .int .u64 (cy:Nat)∧Hid (QA o n i (val o+LB^i*(val (bs.take j)*y)) j o2 cy)∧Own wx B (.slice (some ⟨B,0,none⟩) n n) o2∧Ext w wx) (fun t _ _=>nb-(intOf t).toNat)
    case atStart=>exact ⟨0,o,0,Nat.zero_le _,rfl,rfl,OT,hown,hE⟩
    case round =>
     clear OT hown hE
     obtain ⟨j,o2,cy,hj,rfl,rfl,HW,hown,hE⟩:=hrel
     by_cases hjt:j<nb
     · obtain ⟨Mi,rfl,hb2,hcell2⟩:=OQ (by omega)
       have hc0:=(hE.cell (p:=ad.add i) (by rw [cZ];exact hb1)).trans (hcell1 i hlt)
       rw [HY.out] at hc0
       have hc1:=(hE.cell (p:=Mi.add j) (by rw [cZ];exact hb2)).trans (hcell2 j hjt)
       have hxb:=iV hyl j
       have htk:=VO.out j (by rw [HL.out.2];exact hjt)
       have hcz:=hown.rd.2 (i+j) (by rw [HW.out.len];omega)
       have hf:=hown.frozen' (i+j)
       have hzb:=iV HW.out.lt (i+j)
       have hcy:=HW.out.GY
       obtain ⟨x,CR⟩:∃ x,lb bs j=x:=⟨_,rfl⟩
       rw [CR] at hc1 hxb htk
       obtain ⟨z,hzz⟩:∃ z,lb o2 (i+j)=z:=⟨_,rfl⟩
       rw [hzz] at hcz hzb
       obtain ⟨t,ht⟩:∃ t,x*y=t:=⟨_,rfl⟩
       have ht1:t≤18446744065119617025:=by rw [← ht];exact Mj hxb hyb
       have hti:(y:Int)*(x:Int)=(t:Int):=by rw [← ht,Int.natCast_mul,Int.mul_comm]
       obtain ⟨u,hu⟩:∃ u,cy+(t+z)=u:=⟨_,rfl⟩
       obtain ⟨s,hs⟩:∃ s,u%4294967296=s:=⟨_,rfl⟩
       obtain ⟨d,hd⟩:∃ d,u/4294967296=d:=⟨_,rfl⟩
       obtain ⟨hm,hsb,hdb,hub,htz⟩:=yU t z cy s d u ht1 hzb hcy hu hs hd
       have hst:=HW.out.step (by omega) t s d (by rw [hzz];exact hm) hsb hdb
       rw [Nat.add_assoc (val o),Nat.pow_add,Nat.mul_assoc,← Nat.mul_add,← ht,← Nat.mul_assoc,← Nat.add_mul,← htk] at hst
       have HST:=Lib.hid hst
       have hown2:=hown.set' (i+j) s
       have hE2:=hE.setCell (p:=⟨B,i+j,none⟩) (by rw [E9.out];exact Nat.le_refl _) (.int .u32 (s:Nat))
       have q1:IntKind.u64.wrap (t:Int)=(t:Int):=by rw [IntKind.wrap_u64];omega
       have q2:IntKind.u64.wrap ((t:Int)+(z:Int))=(t:Int)+(z:Int):=by rw [IntKind.wrap_u64];omega
       have q3:(t:Int)+(z:Int)+(cy:Int)=(u:Int):=by omega
       have q4:IntKind.u64.wrap (u:Int)=(u:Int):=by rw [IntKind.wrap_u64];omega
       have q5:IntKind.u32.wrap (u:Int)=(s:Int):=by rw [IntKind.wrap_u32];omega
       have q6:(u:Int)%4294967296=(s:Int):=by omega
       have q7:(u:Int)/4294967296=(d:Int):=by omega
       have q8:IntKind.u64.wrap (x:Int)=(x:Int):=by rw [IntKind.wrap_u64];omega
       have q9:IntKind.u64.wrap (y:Int)=(y:Int):=by rw [IntKind.wrap_u64];omega
       have q10:IntKind.u64.wrap (z:Int)=(z:Int):=by rw [IntKind.wrap_u64];omega
       have q11:(u:Int)%18446744073709551616=(u:Int):=by omega
       have q12:(t:Int)%18446744073709551616=(t:Int):=by omega
       have q13:((t:Int)+(z:Int))%18446744073709551616=(t:Int)+(z:Int):=by omega
       have q14:IntKind.i64.wrap ((i:Int)+(j:Int))=(i:Int)+(j:Int):=IntWalk.i64_in _ (by omega)
       have q15:(0:Int)≤(i:Int)+(j:Int):=by omega
       have q16:(i:Int)+(j:Int)<(n:Int):=by omega
       have q17:((i:Int)+(j:Int)).toNat=i+j:=by omega
       have q18:(0:Int)≤(i:Int):=by omega
       have q19:(i:Int)<(na:Int):=by omega
       have q20:(0:Int)≤(j:Int):=by omega
       have q21:(j:Int)<(nb:Int):=by omega
       clear hst htk CR hzz ht hu hs hd hm HW hxb hzb ht1 hcy hown2 hE2
       have HOWN:=Lib.hid hown
       have Z4:=Lib.hid hE
       clear hown hE
       go_wp2_with (fail)
       go_quiet (fail)
       have hown2:=(HOWN.out.ext (oZ wr nq)).set' (i+j) s
       have hE2:=(Z4.out.below (oZ wr nq)).setCell (p:=⟨B,i+j,none⟩) (by rw [E9.out];exact Nat.le_refl _) (.int .u32 (s:Nat))
       go_wp2
       go_roundw
       case rel=>exact ⟨j+1,_,d,by omega,by go_num,rfl,HST,hown2,hE2⟩
       case measure=>simp [intOf];omega
     · obtain rfl:j=nb:=by omega
       have hcz:=hown.rd.2 (i+j) (by rw [HW.out.len];omega)
       have hf:=hown.frozen' (i+j)
       have hl0:lb o2 (i+j)=0:=by rw [HW.out.out _ (Nat.le_refl _)];exact hno.out
       have hws:=yf o2 (i+j) cy (by rw [HW.out.len];omega)
       rw [hl0,Nat.mul_zero,Nat.add_zero,HW.out.val,HT2.out.1] at hws
       have Bc:(Value.int .u32 (lb o2 (i+j):Nat)) = .int .u32 0:=by rw [hl0];rfl
       rw [Bc] at hcz
       have De:=HW.out.GY
       have q5:IntKind.u32.wrap (cy:Int)=(cy:Int):=by rw [IntKind.wrap_u32];omega
       have q6:(cy:Int)%4294967296=(cy:Int):=by omega
       have hown2:=hown.set' (i+j) cy
       have hE2:=hE.setCell (p:=⟨B,i+j,none⟩) (by rw [E9.out];exact Nat.le_refl _) (.int .u32 (cy:Nat))
       have HST:Hid (Oe bs jw n (i+1) (o2.set (i+j) cy)):=by
        refine ⟨by rw [List.length_set];exact HW.out.len,lT HW.out.lt De,?_,fun m hm=>?_⟩
        · rw [hws,Dc.out,Nat.mul_add,← HO.out.val,Nat.mul_left_comm]
        · rw [HL.out.2] at hm
          rw [jf _ (by omega),HW.out.out _ (by omega)]
          exact HO.out.out m (by rw [HL.out.2];omega)
       have g12:(i:Int)+(j:Int)<(n:Int):=by omega
       have g13:i+j<n:=by omega
       clear hl0 hws Bc hown hE HW De Dc hno
       go_wp2
       go_roundw
       case rel=>exact ⟨i+1,_,by omega,by go_num,HST,hown2,hE2⟩
       case measure=>simp [intOf];omega
  · obtain rfl:i=na:=by omega
    have hu:=hown.CV HO.out.lt (by rw [HO.out.len];omega)
    have hvv:=HO.out.val
    rw [HT2.out.2,Nat.mul_comm] at hvv
    have HV:=Lib.hid hvv
    have hol:=HO.out.len
    clear hown HO hvv
    go_wp2_with (fail)
    refine (fG _ _ _ hu (by omega)).mono ?_
    rintro e w2 ⟨⟨u,rfl,hu2⟩,hB2⟩
    rw [HV.out] at hu2
    have hE2:=hE.below hB2
    have HF:Hid (∃ u',Ending.returned u = .returned u'∧Un w2 u' (val jw*val bs)):=⟨_,rfl,hu2⟩
    clear hu2 hu hB2
    go_wp2
    go_ret
    exact ⟨HF.out,hE2⟩
end Go.Proofs.YtdpmbgomcjnohaaGreatDoor
namespace Go.Proofs.YtdpmbgomcjnohaaGreatDoor
open Go.RowKit
set_option linter.all false
set_option maxRecDepth 100000
set_option maxHeartbeats 8000000
theorem sN (w:World) (va vb:Value) (n m k:Nat) (ha:Un w va n) (hb:Un w vb m) (hn:(limbs n).length≤398) (hm:(limbs m).length≤398) (hk:n*m=k) :
  Calls Tryz.prog 143 #[va,vb] w fun e w'=>∃ u,e = .returned u∧Un w' u k∧Ext w w':=by
 refine (oG w va vb _ _ _ _ ha hb rfl rfl (by omega) (by omega)).mono ?_
 rw [aI,aI,hk]
 rintro e w' ⟨⟨u,h1,h2⟩,h3⟩
 exact ⟨u,h1,h2,h3⟩
end Go.Proofs.YtdpmbgomcjnohaaGreatDoor
namespace Go.Proofs.YtdpmbgomcjnohaaGreatDoor
open Go.RowKit
set_option linter.all false
set_option maxRecDepth 100000
set_option maxHeartbeats 8000000
attribute [local go_sem ↓] kV
attribute [local go_sem] fQ
theorem sj (w:World) (v:Value) (n:Nat) (k0:Nat) (hk:k0≤100000000) (h:Un w v n) (hl:(limbs n).length≤100000000) :
  Calls Tryz.prog 92 #[v,.int .i64 (k0:Int)] w fun e w'=>(∃ u,e = .returned u∧Un w' u (n*2^k0))∧Below w.heap.size w w':=by
 obtain ⟨A,c,rfl,⟨hc,hm⟩,hx,hr⟩:=id h
 clear hr
 obtain ⟨Q,hQ⟩:∃ Q,k0/32=Q:=⟨_,rfl⟩
 obtain ⟨S,hS⟩:∃ S,k0%32=S:=⟨_,rfl⟩
 have eQ:(k0:Int)/32=(Q:Int):=by omega
 have eS:(k0:Int)%32=(S:Int):=by omega
 have HK:Hid (k0=32*Q+S):=by rw [Hid];omega
 have qO:S<32:=by omega
 have Ty:Q≤100000000:=by omega
 go_enter Tryz.func92,Tryz.ntmps92
 go_wp2_with (fail)
 have hown0:Own (w.alloc (.cells #[] 67)) w.heap.size (.slice (some ⟨w.heap.size,0,none⟩) 0 0) []:=World.ownsRow_lit w #[] 0 (Nat.le_refl _) (Nat.zero_le _) rfl
 have hB0:Below w.heap.size w (w.alloc (.cells #[] 67)):=(Below.refl _ _).alloc (Nat.le_refl _) _
 go_loopw [5,8] (fun s i wr=>∃ k:Nat,k≤Q∧i = .int .i64 k∧Own wr w.heap.size s (List.replicate k 0)∧Below w.heap.size w wr) (fun _ i _=>Q-(intOf i).toNat)
 case atStart=>exact ⟨0,Nat.zero_le _,rfl,hown0,hB0⟩
 case round =>
  clear hown0 hB0
  obtain ⟨k,hk1,rfl,hown,hB⟩:=hrel
  by_cases hd1:k<Q
  · obtain ⟨v',w',hrun,hown',hB'⟩:=j6 hB hown 0 0 rfl (by decide) (by simp;omega)
    obtain ⟨t1,t2,t3⟩:=kD hrun
    rw [← List.replicate_succ'] at hown'
    clear hrun
    go_wp2
    go_roundw
    case rel=>exact ⟨k+1,by omega,by go_num,hown',hB'⟩
    case measure=>simp [intOf];omega
  · obtain rfl:k=Q:=by omega
    go_wp2_with (fail)
    go_loop [7,9] (fun b i=>∃ j:Nat,j≤S∧i = .int .i64 j∧b = .int .u64 (2^j:Nat)) (fun _ i=>S-(intOf i).toNat)
    case atStart=>exact ⟨0,Nat.zero_le _,rfl,rfl⟩
    case round =>
     obtain ⟨j,hj,rfl,rfl⟩:=hrel
     have hp1:2^j<4294967296:=Nat.lt_of_le_of_lt (Nat.pow_le_pow_right (by decide) (show j≤31 by omega)) (by decide)
     by_cases hd2:j<S
     · have HN:Hid (2*((2^j:Nat):Int)=((2^(j+1):Nat):Int)):=by rw [Hid,Nat.pow_succ];omega
       obtain ⟨X,hX⟩:∃ X,2^j=X:=⟨_,rfl⟩
       rw [hX] at HN hp1
       rw [hX]
       clear hX
       go_wp2
       go_round
       case rel=>exact ⟨j+1,by omega,by go_num,by rw [← HN.out]⟩
       case measure=>simp [intOf];omega
     · obtain rfl:j=S:=by omega
       have hp0:0<2^j:=Nat.two_pow_pos j
       have OC:Hid (n*2^k0=n*2^j*4294967296^k):=by
        rw [Hid,HK.out,sQ,Nat.pow_add,Nat.mul_comm (2^(32*k)),← Nat.mul_assoc]
       obtain ⟨P,hP⟩:∃ P,2^j=P:=⟨_,rfl⟩
       rw [hP] at hp0 hp1 OC
       rw [hP]
       clear hP
       go_wp2_with (fail)
       have OD:Hid (vN (limbs n) k P 0 (List.replicate k 0) 0):=vN.start _ _ _ hp0
       go_loopw [5,6,10] (fun s cv i wr=>∃ (m cy:Nat) (o:List Nat),m≤(limbs n).length+1∧i = .int .i64 m∧cv = .int .u64 cy∧Hid (vN (limbs n) k P m o cy)∧Own wr w.heap.size s o∧Below w.heap.size w wr) (fun _ _ i _=>(limbs n).length+1-(intOf i).toNat)
       case atStart=>exact ⟨0,0,_,Nat.zero_le _,rfl,rfl,OD,hown,hB⟩
       case round =>
        clear OD hown hB
        obtain ⟨m,cy,o,hm1,rfl,rfl,HO,hown,hB⟩:=hrel
        have hlen:=HO.out.len
        by_cases hd3:m≤(limbs n).length
        · have h1:=iV hx m
          have h3:=HO.out.carry
          have h4:lb (limbs n) m*P+cy<4294967296*P:=by
           have:=Nat.mul_le_mul_right P (show lb (limbs n) m+1≤4294967296 by omega)
           rw [Nat.add_mul] at this;omega
          have e1:((lb (limbs n) m:Nat):Int)*(P:Int)=((lb (limbs n) m*P:Nat):Int):=by rw [Int.natCast_mul]
          have VH:((lb (limbs n) m:Nat):Int)*(P:Int)+(cy:Int)<18446744073709551616:=by rw [e1];omega
          have hm4:0≤((lb (limbs n) m:Nat):Int)*(P:Int):=by rw [e1];omega
          obtain ⟨x1,hx1⟩:∃ x1,(lb (limbs n) m*P+cy)%4294967296=x1:=⟨_,rfl⟩
          obtain ⟨c1,hc1⟩:∃ c1,(lb (limbs n) m*P+cy)/4294967296=c1:=⟨_,rfl⟩
          have CY:Hid (vN (limbs n) k P (m+1) (o++[x1]) c1):=by rw [Hid,← hx1,← hc1];exact HO.out.step hx
          obtain ⟨v',w',hrun,hown',hB'⟩:=j6 hB hown ((((lb (limbs n) m:Nat):Int)*(P:Int)+(cy:Int))%4294967296) x1 (by rw [← hx1,e1];omega) (by rw [← hx1];exact Nat.mod_lt _ (by decide)) (by omega)
          obtain ⟨t1,t2,t3⟩:=kD hrun
          have JZ:Hid ((((lb (limbs n) m:Nat):Int)*(P:Int)+(cy:Int))/4294967296=(c1:Int)):=by rw [Hid,← hc1,e1];omega
          clear hrun hx1 hc1 hlen e1 h4
          go_wp2_with (fail)
          refine (fV _ _ (limbs n) _ m rfl (U.below h hB)).mono ?_
          rintro e w' ⟨rfl,rfl⟩
          go_wp2_with (fail)
          go_roundw
          case rel=>exact ⟨m+1,c1,_,by omega,by go_num,by rw [JZ.out],CY,hown',hB'⟩
          case measure=>simp [intOf];omega
        · obtain rfl:m=(limbs n).length+1:=by omega
          have HV:Hid (val o=n*2^k0):=by rw [Hid,HO.out.done hx (Nat.le_refl _) hp1,aI,OC.out]
          have hu:=hown.CV HO.out.lt (by omega)
          have hol:o.length≤1000000000:=by omega
          clear hlen
          go_wp2_with (fail)
          refine (fG _ _ _ hu hol).mono ?_
          rintro e w' ⟨⟨z,rfl,hz⟩,hB2⟩
          have hz2:Un w' z (n*2^k0):=by rw [← HV.out];exact hz
          replace hB:=Below.trans hB (Below.mono hB2 hB.size)
          clear hz
          go_wp2
          go_ret
          exact ⟨⟨_,rfl,hz2⟩,hB⟩
end Go.Proofs.YtdpmbgomcjnohaaGreatDoor
namespace Go.Proofs.YtdpmbgomcjnohaaGreatDoor
open Go.RowKit
set_option linter.all false
set_option maxRecDepth 100000
set_option maxHeartbeats 8000000
attribute [local go_sem ↓] kV
attribute [local go_sem] fQ
theorem qF (o:List Nat) (N:Nat) (h:∀ j,j<o.length→lb o j=N/4294967296^j%4294967296):val o=N%4294967296^o.length:=by
 have key:∀ j,j≤o.length→val (o.take j)=N%4294967296^j:=by
  intro j
  induction j with
  | zero=>intro _;simp [val,Nat.mod_one]
  | succ j ih =>
   intro hj
   rw [mM o j (by omega),ih (by omega),h j (by omega),Nat.mod_pow_succ,Nat.mul_comm]
 have:=key o.length (Nat.le_refl _)
 rwa [List.take_length] at this
theorem rP (n q S k:Nat) (hS:S<32) :
  (lb (limbs n) (q+k)+4294967296*(lb (limbs n) (q+k+1)%2^S))/2^S%4294967296=n/2^(32*q+S)/4294967296^k%4294967296:=by
 rw [qB,qB]
 have e1:n/2^(32*q+S)/4294967296^k=n/4294967296^(q+k)/2^S:=by
  rw [Nat.div_div_eq_div_mul,Nat.div_div_eq_div_mul,Nat.pow_add 2,← sQ,Nat.pow_add 4294967296,Nat.mul_right_comm]
 have e2:n/4294967296^(q+k+1)=n/4294967296^(q+k)/4294967296:=by
  rw [Nat.pow_succ,Nat.div_div_eq_div_mul]
 rw [e1,e2]
 generalize n/4294967296^(q+k)=V
 have hd:2^S∣4294967296:=⟨2^(32-S),by rw [← Nat.pow_add,show S+(32-S)=32 by omega]⟩
 rw [Nat.mod_mod_of_dvd _ hd]
 have hp:0<2^S:=Nat.two_pow_pos S
 generalize 2^S=P at *
 have e3:V=V%4294967296+4294967296*(V/4294967296%P)+P*(4294967296*(V/4294967296/P)):=by
  have a1:=Nat.div_add_mod V 4294967296
  have a2:=Nat.div_add_mod (V/4294967296) P
  have a3:4294967296*(V/4294967296)=P*(4294967296*(V/4294967296/P))+4294967296*(V/4294967296%P):=by
   conv=>lhs;rw [← a2]
   rw [Nat.mul_add,Nat.mul_left_comm]
  omega
 conv=>rhs;rw [e3]
 rw [Nat.add_mul_div_left _ _ hp,Nat.add_mul_mod_self_left]
theorem wX (a b P:Nat) (ha:a<4294967296) (kZ:0<P) (hP:P<4294967296) :
  (IntKind.u64.wrap ((IntKind.u64.wrap ((a:Int)+IntKind.u64.wrap (4294967296*((b:Int)%(P:Int))))).tdiv (P:Int))).tmod 4294967296%4294967296=(((a+4294967296*(b%P))/P%4294967296:Nat):Int):=by
 have hr:b%P<P:=Nat.mod_lt _ kZ
 rw [← Int.natCast_emod]
 generalize b%P=r at *
 rw [show IntKind.u64.wrap (4294967296*(r:Int))=4294967296*(r:Int) by rw [IntKind.wrap_u64];omega]
 rw [show IntKind.u64.wrap ((a:Int)+4294967296*(r:Int))=((a+4294967296*r:Nat):Int) by rw [IntKind.wrap_u64];omega]
 have hX:a+4294967296*r<18446744073709551616:=by omega
 generalize a+4294967296*r=X at *
 have hY:X/P<18446744073709551616:=Nat.lt_of_le_of_lt (Nat.div_le_self _ _) hX
 rw [Int.tdiv_eq_ediv_of_nonneg (by omega),← Int.natCast_ediv]
 generalize X/P=Y at *
 rw [IntKind.wrap_u64,Int.tmod_eq_emod_of_nonneg (by omega)]
 omega
theorem qG (w:World) (v:Value) (n:Nat) (k0:Nat) (hk:k0≤100000000) (h:Un w v n) (hl:(limbs n).length≤100000000) :
  Calls Tryz.prog 66 #[v,.int .i64 (k0:Int)] w fun e w'=>(∃ u,e = .returned u∧Un w' u (n/2^k0))∧Below w.heap.size w w':=by
 obtain ⟨A,c,rfl,⟨hc,hm⟩,hx,hr⟩:=id h
 clear hr
 obtain ⟨Q,hQ⟩:∃ Q,k0/32=Q:=⟨_,rfl⟩
 obtain ⟨S,hS⟩:∃ S,k0%32=S:=⟨_,rfl⟩
 have eQ:(k0:Int)/32=(Q:Int):=by omega
 have eS:(k0:Int)%32=(S:Int):=by omega
 have HK:Hid (k0=32*Q+S):=by rw [Hid];omega
 have qO:S<32:=by omega
 have Ty:Q≤100000000:=by omega
 go_enter Tryz.func66,Tryz.ntmps66
 go_wp2_with (fail)
 have hown0:Own (w.alloc (.cells #[] 67)) w.heap.size (.slice (some ⟨w.heap.size,0,none⟩) 0 0) []:=World.ownsRow_lit w #[] 0 (Nat.le_refl _) (Nat.zero_le _) rfl
 have hB0:Below w.heap.size w (w.alloc (.cells #[] 67)):=(Below.refl _ _).alloc (Nat.le_refl _) _
 go_loop [6,7] (fun b i=>∃ j:Nat,j≤S∧i = .int .i64 j∧b = .int .u64 (2^j:Nat)) (fun _ i=>S-(intOf i).toNat)
 case atStart=>exact ⟨0,Nat.zero_le _,rfl,rfl⟩
 case round =>
  obtain ⟨j,hj,rfl,rfl⟩:=hrel
  have hp1:2^j<4294967296:=Nat.lt_of_le_of_lt (Nat.pow_le_pow_right (by decide) (show j≤31 by omega)) (by decide)
  by_cases hd2:j<S
  · have HN:Hid (2*((2^j:Nat):Int)=((2^(j+1):Nat):Int)):=by rw [Hid,Nat.pow_succ];omega
    obtain ⟨X,hX⟩:∃ X,2^j=X:=⟨_,rfl⟩
    rw [hX] at HN hp1
    rw [hX]
    clear hX
    go_wp2
    go_round
    case rel=>exact ⟨j+1,by omega,by go_num,by rw [← HN.out]⟩
    case measure=>simp [intOf];omega
  · obtain rfl:j=S:=by omega
    have hp0:0<2^j:=Nat.two_pow_pos j
    have HD:Hid (∀ k,(lb (limbs n) (Q+k)+4294967296*(lb (limbs n) (Q+k+1)%2^j))/2^j%4294967296=n/2^k0/4294967296^k%4294967296):=fun k=>by
     rw [HK.out];exact rP n Q j k qO
    have HT:Hid (n/2^k0<4294967296^((limbs n).length-Q)):=by
     rw [Hid,Nat.div_lt_iff_lt_mul (Nat.two_pow_pos _)]
     refine Nat.lt_of_lt_of_le (pz n) ?_
     rw [HK.out,Nat.pow_add,← sQ,← Nat.mul_assoc,← Nat.pow_add]
     exact Nat.le_trans (Nat.pow_le_pow_right (by decide) (show (limbs n).length≤(limbs n).length-Q+Q by omega)) (Nat.le_mul_of_pos_right _ hp0)
    obtain ⟨P,hP⟩:∃ P,2^j=P:=⟨_,rfl⟩
    rw [hP] at hp0 hp1 HD
    rw [hP]
    clear hP
    go_wp2_with (fail)
    go_loopw [5,8] (fun s i wr=>∃ (m:Nat) (o:List Nat),(m=0∨Q+m≤(limbs n).length)∧i = .int .i64 ((Q+m:Nat):Int)∧Hid (o.length=m∧(∀ x∈o,x<4294967296)∧∀ t,t<m→lb o t=n/2^k0/4294967296^t%4294967296)∧Own wr w.heap.size s o∧Below w.heap.size w wr) (fun _ i _=>(limbs n).length-(intOf i).toNat)
    case atStart=>exact ⟨0,[],Or.inl rfl,rfl,⟨rfl,by simp,fun t ht=>by omega⟩,hown0,hB0⟩
    case round =>
     clear hown0 hB0
     obtain ⟨m,o,hm1,rfl,HO,hown,hB⟩:=hrel
     have hlen:=HO.out.1
     by_cases hd3:Q+m<(limbs n).length
     · have h1:=iV hx (Q+m)
       have h2:=iV hx (Q+m+1)
       obtain ⟨x1,hx1⟩:∃ x1,(lb (limbs n) (Q+m)+4294967296*(lb (limbs n) (Q+m+1)%P))/P%4294967296=x1:=⟨_,rfl⟩
       have hxl:x1<4294967296:=by rw [← hx1];exact Nat.mod_lt _ (by decide)
       have CY:Hid ((o++[x1]).length=m+1∧(∀ x∈o++[x1],x<4294967296)∧∀ t,t<m+1→lb (o++[x1]) t=n/2^k0/4294967296^t%4294967296):=by
        refine ⟨by simp [hlen],tN HO.out.2.1 hxl,fun t ht=>?_⟩
        rcases Nat.lt_or_ge t m with h6 | h6
        · rw [← HO.out.2.2 t h6];unfold lb;rw [List.getElem?_append_left (by omega)]
        · obtain rfl:t=m:=by omega
          rw [← HD.out t,hx1];unfold lb;rw [List.getElem?_append_right (by omega),hlen,Nat.sub_self];rfl
       have e2:(IntKind.u64.wrap ((IntKind.u64.wrap (((lb (limbs n) (Q+m):Nat):Int)+IntKind.u64.wrap (4294967296*(((lb (limbs n) (Q+m+1):Nat):Int)%(P:Int))))).tdiv (P:Int))).tmod 4294967296%4294967296=(x1:Int):=by rw [← hx1];exact wX _ _ _ h1 hp0 hp1
       obtain ⟨v',w',hrun,hown',hB'⟩:=j6 hB hown ((IntKind.u64.wrap ((IntKind.u64.wrap (((lb (limbs n) (Q+m):Nat):Int)+IntKind.u64.wrap (4294967296*(((lb (limbs n) (Q+m+1):Nat):Int)%(P:Int))))).tdiv (P:Int))).tmod 4294967296%4294967296) x1 e2 hxl (by omega)
       obtain ⟨t1,t2,t3⟩:=kD hrun
       clear hrun hx1 e2 hlen hxl h2 hown hm1
       go_wp2_with (fail)
       refine (fV _ _ (limbs n) _ (Q+m) (by omega) (U.below h hB)).mono ?_
       rintro e w' ⟨rfl,rfl⟩
       go_wp2_with (fail)
       refine (fV _ _ (limbs n) _ (Q+m+1) (by omega) (U.below h hB)).mono ?_
       rintro e w' ⟨rfl,rfl⟩
       go_wp2_with (fail)
       go_roundw
       case rel=>exact ⟨m+1,_,Or.inr (by omega),by go_num,CY,hown',hB'⟩
       case measure=>simp [intOf];omega
     · have HV:Hid (val o=n/2^k0):=by
        rw [Hid,qF o (n/2^k0) (fun t ht=>HO.out.2.2 t (by omega))]
        apply Nat.mod_eq_of_lt
        refine Nat.lt_of_lt_of_le HT.out (Nat.pow_le_pow_right (by decide) (by omega))
       have hu:=hown.CV HO.out.2.1 (by omega)
       have hol:o.length≤1000000000:=by omega
       clear hlen
       go_wp2_with (fail)
       refine (fG _ _ _ hu hol).mono ?_
       rintro e w' ⟨⟨z,rfl,hz⟩,hB2⟩
       have hz2:Un w' z (n/2^k0):=by rw [← HV.out];exact hz
       replace hB:=Below.trans hB (Below.mono hB2 hB.size)
       clear hz
       go_wp2
       go_ret
       exact ⟨⟨_,rfl,hz2⟩,hB⟩
end Go.Proofs.YtdpmbgomcjnohaaGreatDoor
namespace Go.Proofs.YtdpmbgomcjnohaaGreatDoor
open Go.RowKit
set_option linter.all false
set_option maxRecDepth 100000
set_option maxHeartbeats 8000000
theorem iA (w:World) (v:Value) (n:Nat) (k:Nat) (h:Un w v n) (hk1:k≤100000000) (hl:(limbs n).length≤100000000) (s:Nat) (hs:n*2^k=s) :
  Calls Tryz.prog 92 #[v,.int .i64 (k:Int)] w fun e w'=>∃ z,e = .returned z∧Un w' z s∧Ext w w':=by
 subst hs
 exact (sj w v n k hk1 h hl).mono fun e w' ⟨⟨z,he,hz⟩,hb⟩=>⟨z,he,hz,hb⟩
theorem zk (w:World) (v:Value) (n:Nat) (k:Nat) (h:Un w v n) (hk1:k≤100000000) (hl:(limbs n).length≤100000000) (s:Nat) (hs:n/2^k=s) :
  Calls Tryz.prog 66 #[v,.int .i64 (k:Int)] w fun e w'=>∃ z,e = .returned z∧Un w' z s∧Ext w w':=by
 subst hs
 exact (qG w v n k hk1 h hl).mono fun e w' ⟨⟨z,he,hz⟩,hb⟩=>⟨z,he,hz,hb⟩
end Go.Proofs.YtdpmbgomcjnohaaGreatDoor
namespace Go.Proofs.YtdpmbgomcjnohaaGreatDoor
open Go.RowKit
set_option linter.all false
set_option maxRecDepth 100000
set_option maxHeartbeats 8000000
theorem Ca (w:World) (va vb:Value) (n m k:Nat) (ha:Un w va n) (hb:Un w vb m) (hn:(limbs n).length≤398) (hm:(limbs m).length≤398) (hk:n*m=k) :
  Calls Tryz.prog 128 #[va,vb] w fun e w'=>∃ u,e = .returned u∧Un w' u k∧Ext w w':=by
 have h0:=Lib.hid (sN w va vb n m k ha hb hn hm hk)
 clear ha hb hn hm hk
 go_enter Tryz.func128,Tryz.ntmps128
 go_wp2_with (fail)
 refine h0.out.mono ?_
 rintro e w1 ⟨u,rfl,hu,hB⟩
 have HF:Hid (∃ u',Ending.returned u = .returned u'∧Un w1 u' k∧Ext w w1):=⟨_,rfl,hu,hB⟩
 clear hu hB h0
 go_wp2
 go_ret
 exact HF.out
end Go.Proofs.YtdpmbgomcjnohaaGreatDoor
namespace Go.Proofs.YtdpmbgomcjnohaaGreatDoor
open Go.RowKit
set_option linter.all false
set_option maxRecDepth 100000
set_option maxHeartbeats 8000000
theorem vO {w X Y:World} {p:Bool} {mp:Value} (h:(w.heap.size+1<X.heap.size∧X.cell? ⟨w.heap.size,0,none⟩=some (.bool p)∧X.cell? ⟨w.heap.size,1,none⟩=some mp)∧Ext w X) (k:Ext X Y):(w.heap.size+1<Y.heap.size∧Y.cell? ⟨w.heap.size,0,none⟩=some (.bool p)∧Y.cell? ⟨w.heap.size,1,none⟩=some mp)∧Ext w Y:=by
 obtain ⟨⟨h0,h1,h2⟩,hx⟩:=h
 have hs:=k.size
 exact ⟨⟨by omega,(k.cell (p:=⟨w.heap.size,0,none⟩) (by show w.heap.size<_;omega)).trans h1,(k.cell (p:=⟨w.heap.size,1,none⟩) (by show w.heap.size<_;omega)).trans h2⟩,hx.below k⟩
theorem vP {w X:World} {p:Bool} {mp x y:Value} (h:(w.heap.size+1<X.heap.size∧X.cell? ⟨w.heap.size,0,none⟩=some (.bool p)∧X.cell? ⟨w.heap.size,1,none⟩=some mp)∧Ext w X):(w.heap.size+1<((X.setCell ⟨w.heap.size+1,0,none⟩ x).setCell ⟨w.heap.size+1,1,none⟩ y).heap.size∧((X.setCell ⟨w.heap.size+1,0,none⟩ x).setCell ⟨w.heap.size+1,1,none⟩ y).cell? ⟨w.heap.size,0,none⟩=some (.bool p)∧((X.setCell ⟨w.heap.size+1,0,none⟩ x).setCell ⟨w.heap.size+1,1,none⟩ y).cell? ⟨w.heap.size,1,none⟩=some mp)∧Ext w ((X.setCell ⟨w.heap.size+1,0,none⟩ x).setCell ⟨w.heap.size+1,1,none⟩ y):=by
 obtain ⟨⟨h0,h1,h2⟩,hx⟩:=h
 have hc:∀ a:Addr,a.block≠w.heap.size+1→((X.setCell ⟨w.heap.size+1,0,none⟩ x).setCell ⟨w.heap.size+1,1,none⟩ y).cell? a=X.cell? a:=fun a ha=>by
  rw [World.cell?_setCell_other _ _ _ _ (fun e=>ha (by rw [← e])),World.cell?_setCell_other _ _ _ _ (fun e=>ha (by rw [← e]))]
 refine ⟨⟨by simpa using h0,?_,?_⟩,hx.fZ (by omega) _ _⟩
 · rw [hc _ (by show w.heap.size≠_;omega)];exact h1
 · rw [hc _ (by show w.heap.size≠_;omega)];exact h2
theorem uB {w X Y:World} {p q:Bool} {mp mq:Value} (h:(w.heap.size+1+1<X.heap.size∧X.cell? ⟨w.heap.size,0,none⟩=some (.bool p)∧X.cell? ⟨w.heap.size,1,none⟩=some mp∧X.cell? ⟨w.heap.size+1,0,none⟩=some (.bool q)∧X.cell? ⟨w.heap.size+1,1,none⟩=some mq)∧Ext w X) (k:Ext X Y):(w.heap.size+1+1<Y.heap.size∧Y.cell? ⟨w.heap.size,0,none⟩=some (.bool p)∧Y.cell? ⟨w.heap.size,1,none⟩=some mp∧Y.cell? ⟨w.heap.size+1,0,none⟩=some (.bool q)∧Y.cell? ⟨w.heap.size+1,1,none⟩=some mq)∧Ext w Y:=by
 obtain ⟨⟨h0,h1,h2,h3,h4⟩,hx⟩:=h
 have hs:=k.size
 exact ⟨⟨by omega,(k.cell (p:=⟨w.heap.size,0,none⟩) (by show w.heap.size<_;omega)).trans h1,(k.cell (p:=⟨w.heap.size,1,none⟩) (by show w.heap.size<_;omega)).trans h2,(k.cell (p:=⟨w.heap.size+1,0,none⟩) (by show w.heap.size+1<_;omega)).trans h3,(k.cell (p:=⟨w.heap.size+1,1,none⟩) (by show w.heap.size+1<_;omega)).trans h4⟩,hx.below k⟩
theorem uC {w X:World} {p q:Bool} {mp mq x y:Value} (h:(w.heap.size+1+1<X.heap.size∧X.cell? ⟨w.heap.size,0,none⟩=some (.bool p)∧X.cell? ⟨w.heap.size,1,none⟩=some mp∧X.cell? ⟨w.heap.size+1,0,none⟩=some (.bool q)∧X.cell? ⟨w.heap.size+1,1,none⟩=some mq)∧Ext w X):(w.heap.size+1+1<((X.setCell ⟨w.heap.size+1+1,0,none⟩ x).setCell ⟨w.heap.size+1+1,1,none⟩ y).heap.size∧((X.setCell ⟨w.heap.size+1+1,0,none⟩ x).setCell ⟨w.heap.size+1+1,1,none⟩ y).cell? ⟨w.heap.size,0,none⟩=some (.bool p)∧((X.setCell ⟨w.heap.size+1+1,0,none⟩ x).setCell ⟨w.heap.size+1+1,1,none⟩ y).cell? ⟨w.heap.size,1,none⟩=some mp∧((X.setCell ⟨w.heap.size+1+1,0,none⟩ x).setCell ⟨w.heap.size+1+1,1,none⟩ y).cell? ⟨w.heap.size+1,0,none⟩=some (.bool q)∧((X.setCell ⟨w.heap.size+1+1,0,none⟩ x).setCell ⟨w.heap.size+1+1,1,none⟩ y).cell? ⟨w.heap.size+1,1,none⟩=some mq)∧Ext w ((X.setCell ⟨w.heap.size+1+1,0,none⟩ x).setCell ⟨w.heap.size+1+1,1,none⟩ y):=by
 obtain ⟨⟨h0,h1,h2,h3,h4⟩,hx⟩:=h
 have hc:∀ a:Addr,a.block≠w.heap.size+1+1→((X.setCell ⟨w.heap.size+1+1,0,none⟩ x).setCell ⟨w.heap.size+1+1,1,none⟩ y).cell? a=X.cell? a:=fun a ha=>by
  rw [World.cell?_setCell_other _ _ _ _ (fun e=>ha (by rw [← e])),World.cell?_setCell_other _ _ _ _ (fun e=>ha (by rw [← e]))]
 refine ⟨⟨by simpa using h0,?_,?_,?_,?_⟩,hx.fZ (by omega) _ _⟩
 · rw [hc _ (by show w.heap.size≠_;omega)];exact h1
 · rw [hc _ (by show w.heap.size≠_;omega)];exact h2
 · rw [hc _ (by show w.heap.size+1≠_;omega)];exact h3
 · rw [hc _ (by show w.heap.size+1≠_;omega)];exact h4
end Go.Proofs.YtdpmbgomcjnohaaGreatDoor
namespace Go.Proofs.YtdpmbgomcjnohaaGreatDoor
open Go.RowKit
set_option linter.all false
set_option maxRecDepth 100000
set_option maxHeartbeats 8000000
theorem su (w:World):(Instr.alloc 24 true (.tuple #[])).run Tryz.prog w = .ok (.pointer (some ⟨w.heap.size,0,none⟩)) (w.alloc (.cells #[.bool false,.slice none 0 0] 24)):=by go_simp
theorem sw {w:World} {N:Nat} {b0:Bool} {A0:Option Addr} {n0 c0:Nat} (h:Ib w N b0 (.slice A0 n0 c0)) (b:Bool) (A:Option Addr) (n c:Nat) :
  (Instr.storeAt 24 (.pointer (some ⟨N,0,none⟩)) (.agg #[.bool b,.slice A n c])).run Tryz.prog w = .ok () ((w.setCell ⟨N,0,none⟩ (.bool b)).setCell ⟨N,1,none⟩ (.slice A n c))∧Ib ((w.setCell ⟨N,0,none⟩ (.bool b)).setCell ⟨N,1,none⟩ (.slice A n c)) N b (.slice A n c):=by
 obtain ⟨h0,h1,h2,h3,h4⟩:=h
 refine ⟨?_,?_,?_,?_,?_,?_⟩
 all_goals go_simp
section
variable {L:List Oper} {S:World→Prop} {K:List (Nat × Value)→World→Prop} {i m d:Nat} {o:Oper} {x y:Operand} {r:List (Bool × Nat × Nat)} {l:List (Nat × Value)} {w:World} {b b0:Bool} {A A0:Option Addr} {n c n0 c0 N:Nat}
theorem bP (ho:Pl.nth L i=some o) (hp:o.op = .alloc 24) (hd:o.dst=some d) (hg:o.guard=none) (hS:∀ Y,Ext w Y→S Y)
  (h:∀ N w',Ext w w'→w.heap.size≤N→Ib w' N false (.slice none 0 0)→Pl.lD Tryz.prog L S K r ((d,.pointer (some ⟨N,0,none⟩))::l) w'):Pl.lD Tryz.prog L S K ((false,i,m)::r) l w:=by
 have e1:=(Ext.refl w).alloc (.cells #[.bool false,.slice none 0 0] 24)
 exact Pl.AX ho hp hd (by rw [hg];rfl) (su w) (hS _ e1) (h _ _ e1 (Nat.le_refl _) (Ib.new w false (.slice none 0 0) 24))
theorem pO (ho:Pl.nth L i=some o) (hp:o.op = .store 24 x y) (hd:o.dst=none) (hg:o.guard=none) (hx:Pl.kI l x=some (.pointer (some ⟨N,0,none⟩))) (hy:Pl.kI l y=some (.agg #[.bool b,.slice A n c]))
  (hI:Ib w N b0 (.slice A0 n0 c0)) (hS:∀ Y,(∀ w0,Ext w0 w→w0.heap.size≤N→Ext w0 Y)→S Y)
  (h:∀ w',(∀ w0,Ext w0 w→w0.heap.size≤N→Ext w0 w')→(∀ v z,Zn w v z→Zn w' v z)→(∀ M b m,M≠N→Ib w M b m→Ib w' M b m)→Ib w' N b (.slice A n c)→Pl.lD Tryz.prog L S K r l w'):Pl.lD Tryz.prog L S K ((false,i,m)::r) l w:=by
 obtain ⟨r1,I1⟩:=sw hI b A n c
 have T1:∀ w0,Ext w0 w→w0.heap.size≤N→Ext w0 ((w.setCell ⟨N,0,none⟩ (.bool b)).setCell ⟨N,1,none⟩ (.slice A n c)):=fun w0 h hN=>h.fZ hN _ _
 exact Pl.ze ho hp hd (by rw [hg];rfl) hx hy r1 (hS _ T1) (h _ T1 (fun v z hz=>hz.fZ hI (dw _ _ _) _ _) (fun M b m hne hM=>hM.other hne _ _) I1)
end
end Go.Proofs.YtdpmbgomcjnohaaGreatDoor
namespace Go.Proofs.YtdpmbgomcjnohaaGreatDoor
open Go.RowKit
set_option linter.all false
set_option maxRecDepth 100000
set_option maxHeartbeats 8000000
section
variable {L:List Oper} {S:World→Prop} {K:List (Nat × Value)→World→Prop} {k:Bool} {i m d:Nat} {o:Oper} {x:Operand} {r:List (Bool × Nat × Nat)} {l:List (Nat × Value)} {w:World} {b b1 b2:Bool} {A A1 A2:Option Addr} {n c n1 c1 n2 c2:Nat}
theorem FE (ho:Pl.nth L i=some o) (hp:o.op = .box 24 x) (hd:o.dst=some d) (hg:o.guard=none) (hx:Pl.kI l x=some (.agg #[.bool b,.slice A n c])) (hS:∀ Y,Ext w Y→S Y)
  (h:∀ N w',Ext w w'→Ib w' N b (.slice A n c)→Pl.lD Tryz.prog L S K r ((d,.pointer (some ⟨N,0,none⟩))::l) w'):Pl.lD Tryz.prog L S K ((false,i,m)::r) l w:=by
 have e1:=(Ext.refl w).alloc (.cells #[.bool b,.slice A n c] 24)
 refine Pl.uZ (w':=w.alloc (.cells #[.bool b,.slice A n c] 24)) (v:=.pointer (some ⟨w.heap.size,0,none⟩)) ho hd (by rw [hg];rfl) (fun ρ hρ=>?_) (hS _ e1) (h _ _ e1 (Ib.new w b _ _))
 unfold execOp;rw [hp]
 refine Pl.sS _ ?_
 rw [hρ.kI hx]
 go_simp
end
end Go.Proofs.YtdpmbgomcjnohaaGreatDoor
namespace Go.Proofs.YtdpmbgomcjnohaaGreatDoor
open Go.RowKit
set_option linter.all false
set_option maxRecDepth 100000
set_option maxHeartbeats 8000000
theorem zO {x y:Operand} {a b:Int} {v:Bool} (h:decide (b≤a)=v) (X:World):(do eqGuard .geq 3 x y (.int .i64 a) (.int .i64 b);binOp .geq 3 (.int .i64 a) (.int .i64 b):Sem Value).run Tryz.prog X = .ok (.bool v) X:=by
 subst h;go_simp
theorem FH {a c:Int} (h : -a=c) (h1 : -1000000≤c) (h2:c≤1000000) (X:World):(Op.unary .neg (.int .i64 a)).run Tryz.prog X = .ok (.int .i64 c) X:=by
 have:IntKind.i64.wrap c=c:=IntWalk.i64_in _ (by omega)
 go_simp
theorem Ib.mag {X:World} {N:Nat} {b:Bool} {m:Value} (h:Ib X N b m):(Instr.loadAt 22 (.pointer (some ⟨N,1,none⟩))).run Tryz.prog X = .ok m X:=by
 obtain ⟨h0,h1,h2,h3,h4⟩:=h
 go_simp
theorem BH (N:Nat) (X:World):(Instr.fieldAt 24 (.pointer (some ⟨N,0,none⟩)) 1).run Tryz.prog X = .ok (.pointer (some ⟨N,1,none⟩)) X:=by go_simp
theorem BI (N:Nat) (X:World):(Instr.fieldAt 24 (.pointer (some ⟨N,0,none⟩)) 0).run Tryz.prog X = .ok (.pointer (some ⟨N,0,none⟩)) X:=by go_simp
section
variable {L:List Oper} {S:World→Prop} {K:List (Nat × Value)→World→Prop} {k:Bool} {i m d:Nat} {o:Oper} {x:Operand} {r:List (Bool × Nat × Nat)} {l:List (Nat × Value)} {w:World}
theorem qW {T:TypeId} {j:Nat} {p v:Value} (hS:S w) (ho:Pl.nth L i=some o) (hop:o.op = .fieldAddr T x j) (hd:o.dst=some d) (hg:Pl.gd L l o.guard=some true) (hx:Pl.kI l x=some p)
  (hr:∀ X,(Instr.fieldAt T p j).run Tryz.prog X = .ok v X) (h:Pl.lD Tryz.prog L S K r ((d,v)::l) w):Pl.lD Tryz.prog L S K ((k,i,m)::r) l w :=
 Pl.nD hS ho hd hg (fun ρ hρ X _=>by unfold execOp;rw [hop];exact Pl.pQ _ X (by rw [hρ.kI hx];exact hr X)) h
end
end Go.Proofs.YtdpmbgomcjnohaaGreatDoor
namespace Go.Proofs.YtdpmbgomcjnohaaGreatDoor
open Go.RowKit
set_option linter.all false
set_option maxRecDepth 100000
set_option maxHeartbeats 8000000
section
variable {x y:Operand} {X:World}
section
variable {L:List Oper} {S:World→Prop} {K:List (Nat × Value)→World→Prop} {k:Bool} {i m d:Nat} {o:Oper} {r:List (Bool × Nat × Nat)} {l:List (Nat × Value)} {w:World}
end
end
theorem lK {L:List Oper} {S:World→Prop} {K:List (Nat × Value)→World→Prop} {i m d:Nat} {o:Oper} {x:Operand} {r:List (Bool × Nat × Nat)} {l:List (Nat × Value)} {w:World} {n:Nat} (hn:n<4294967296)
  (ho:Pl.nth L i=some o) (hp:o.op = .buildSlice 22 1 #[(0,x)]) (hd:o.dst=some d) (hg:Pl.gd L l o.guard=some true) (hx:Pl.kI l x=some (.int .u32 (n:Int))) (hS:∀ Y,Ext w Y→S Y)
  (h:∀ A w',Ext w w'→U w' (.slice A 1 1) [n]→Pl.lD Tryz.prog L S K r ((d,.slice A 1 1)::l) w'):Pl.lD Tryz.prog L S K ((false,i,m)::r) l w:=by
 have e1:=(Ext.refl w).alloc (.cells #[.int .u32 (n:Int)] 67)
 refine Pl.uZ (w':=w.alloc (.cells #[.int .u32 (n:Int)] 67)) (v:=.slice (some ⟨w.heap.size,0,none⟩) 1 1) ho hd hg (fun ρ hρ=>?_) (hS _ e1) (h _ _ e1 ?_)
 · unfold execOp;rw [hp]
   refine Pl.sS _ ?_
   have e:=hρ.kI hx
   simp only [List.map_toArray,List.map_cons,List.map_nil]
   go_simp
 · refine ⟨some ⟨w.heap.size,0,none⟩,1,rfl,⟨Nat.le_refl _,by show 1≤_;decide⟩,fun x hx=>?_,fun _=>⟨⟨w.heap.size,0,none⟩,rfl,by simp,fun j hj=>?_⟩⟩
   · obtain rfl:x=n:=by simpa using hx
     exact hn
   · obtain rfl:j=0:=by simp at hj;omega
     have:lb [n] 0=n:=rfl
     go_simp
end Go.Proofs.YtdpmbgomcjnohaaGreatDoor
namespace Go.Proofs.YtdpmbgomcjnohaaGreatDoor
open Go.RowKit
set_option linter.all false
set_option maxRecDepth 100000
set_option maxHeartbeats 8000000
/-! Contracts. -/
/-! Comparisons of what nat.Cmp tells. -/
section
variable {P:Program} {T:TypeId} {x y:Operand} {n m:Nat}
end
/-! Numbers of the kinds. -/
section
variable {P:Program} {T:TypeId} {x y:Operand} {a b:Nat} {za zb:Int}
theorem jR (h0:b≠0) (_:a≤a) (X:World):Pl.Bn P .rem T x y (.int .i64 ((a:Nat):Int)) (.int .i64 ((b:Nat):Int)) X = .ok (.int .i64 ((a%b:Nat):Int)) X:=Pl.wD (by omega) (Int.ofNat_tmod a b).symm X
end
/-! Ways out of loops and blocks. -/
section
variable {P:Program} {Q:Exit→Act→World→Prop} {n:Nat} {ds:List Deferred} {cs:List Code} {l:List (Nat × Value)} {w:World}
end
section
variable {P:Program} {L:List Oper} {S:World→Prop} {K:List (Nat × Value)→World→Prop} {kk:Bool} {i m d:Nat} {o:Oper} {x y:Operand} {r:List (Bool × Nat × Nat)} {l:List (Nat × Value)} {w:World} {k:IntKind} {a b:Nat}
end
end Go.Proofs.YtdpmbgomcjnohaaGreatDoor
namespace Go.Proofs.YtdpmbgomcjnohaaGreatDoor.Dy
set_option linter.all false
set_option maxRecDepth 100000
set_option maxHeartbeats 8000000
/-! What is rounded to whole numbers. -/
/-! What the laws say. -/
theorem EM (n:Int):(2:Rat)^n*2^(-n)=1:=by rw [← yz,Int.add_right_neg];rfl
theorem ties (m n:Int):BX 4 (dv (m*2+1) (-n-1)*2^n)=if m%2=0 then m else m+1:=by
 have e:dv (m*2+1) (-n-1)*2^n=(m:Rat)+1/2:=by
  unfold dv
  rw [Rat.mul_assoc,← yz,show -n-1+n = -1 by omega,Rat.intCast_add,Rat.intCast_mul]
  have:(2:Rat)^(-1:Int)=1/2:=by rw [show (-1:Int) = -(1:Int) from rfl,Rat.zpow_neg,Rat.zpow_one];grind
  rw [this]
  have e1:((2:Int):Rat)=2:=rfl
  have e2:((1:Int):Rat)=1:=rfl
  rw [e1,e2]
  grind
 rw [e]
 have hf:((m:Rat)+1/2).floor=m:=TI (by grind) (by grind)
 have hc:cl ((m:Rat)+1/2)=m+1:=by rw [We (by rw [hf];grind),hf]
 unfold BX
 rw [hf,hc]
 simp
 grind
/-! What the program does. -/
end Go.Proofs.YtdpmbgomcjnohaaGreatDoor.Dy
namespace Go.Proofs.YtdpmbgomcjnohaaGreatDoor.Rq
set_option linter.all false
set_option maxRecDepth 100000
set_option maxHeartbeats 8000000
theorem Cc (a b:Rat):Rat.divInt (a.num*b.num) ((a.den*b.den:Nat):Int)=a*b:=by rw [Rat.divInt_ofNat,Rat.mul_def']
end Go.Proofs.YtdpmbgomcjnohaaGreatDoor.Rq
namespace Go.Proofs.YtdpmbgomcjnohaaGreatDoor
open Go.RowKit
set_option linter.all false
set_option maxRecDepth 100000
set_option maxHeartbeats 8000000
theorem xH (p q:Bool) (n m:Nat):sg (!(p==q)) (n*m)=sg p n*sg q m:=by
 cases p<;>cases q<;>simp [sg,Int.mul_neg,Int.neg_mul]
end Go.Proofs.YtdpmbgomcjnohaaGreatDoor
namespace Go.Proofs.YtdpmbgomcjnohaaGreatDoor
open Go.RowKit
set_option linter.all false
set_option maxRecDepth 100000
set_option maxHeartbeats 8000000
theorem vX (w:World) (p:Bool) (A B:Option Addr) (L K c d n m:Nat) (hu:Un w (.slice A L c) n) (hv:Un w (.slice B K d) m) (hl:(limbs n).length≤1000000) (hl2:(limbs m).length≤1000000) (y:Int) (hy:sg p (n+m)=y) :
  Calls Tryz.prog 55 #[.agg #[.bool p,.slice A L c],.agg #[.bool p,.slice B K d]] w fun e w'=>∃ u,e = .returned u∧Zn w' u y∧Ext w w':=by
 have hE0:=((((Ext.refl w).alloc (.cells #[.bool p,.slice A L c] 24)).alloc (.cells #[.bool p,.slice B K d] 24)).alloc (.cells #[.bool false,.slice none 0 0] 24)).drew
 have hI0:=(Ib.zu w (.cells #[.bool p,.slice A L c] 24) (.cells #[.bool p,.slice B K d] 24) false (.slice none 0 0) 24).ext (Ext.refl _).drew
 have kZ:=(Ib.new w p (.slice A L c) 24).ext ((((Ext.refl _).alloc (.cells #[.bool p,.slice B K d] 24)).alloc (.cells #[.bool false,.slice none 0 0] 24)).drew)
 have vW:=(Ib.new2 w (.cells #[.bool p,.slice A L c] 24) p (.slice B K d) 24).ext (((Ext.refl _).alloc (.cells #[.bool false,.slice none 0 0] 24)).drew)
 have hS0:(w.heap.size+1+1<(((w.alloc (.cells #[.bool p,.slice A L c] 24)).alloc (.cells #[.bool p,.slice B K d] 24)).alloc (.cells #[.bool false,.slice none 0 0] 24)).drew.heap.size∧(((w.alloc (.cells #[.bool p,.slice A L c] 24)).alloc (.cells #[.bool p,.slice B K d] 24)).alloc (.cells #[.bool false,.slice none 0 0] 24)).drew.cell? ⟨w.heap.size,0,none⟩=some (.bool p)∧(((w.alloc (.cells #[.bool p,.slice A L c] 24)).alloc (.cells #[.bool p,.slice B K d] 24)).alloc (.cells #[.bool false,.slice none 0 0] 24)).drew.cell? ⟨w.heap.size,1,none⟩=some (.slice A L c)∧(((w.alloc (.cells #[.bool p,.slice A L c] 24)).alloc (.cells #[.bool p,.slice B K d] 24)).alloc (.cells #[.bool false,.slice none 0 0] 24)).drew.cell? ⟨w.heap.size+1,0,none⟩=some (.bool p)∧(((w.alloc (.cells #[.bool p,.slice A L c] 24)).alloc (.cells #[.bool p,.slice B K d] 24)).alloc (.cells #[.bool false,.slice none 0 0] 24)).drew.cell? ⟨w.heap.size+1,1,none⟩=some (.slice B K d))∧Ext w (((w.alloc (.cells #[.bool p,.slice A L c] 24)).alloc (.cells #[.bool p,.slice B K d] 24)).alloc (.cells #[.bool false,.slice none 0 0] 24)).drew:=⟨⟨by simp,kZ.2.1,kZ.2.2.1,vW.2.1,vW.2.2.1⟩,hE0⟩
 have hu0:=hu.below hE0
 have hv0:=hv.below hE0
 have hsl:(limbs (n+m)).length≤1000000000:=by
  have h1:=jB hl
  have h2:=jB hl2
  refine Nat.le_trans (rA (k:=1000000+1) ?_) (by omega)
  obtain ⟨E,hE⟩:∃ E,1000000=E:=⟨_,rfl⟩
  rw [hE] at h1 h2 ⊢
  rw [Nat.pow_succ]
  have:LB^E*2≤LB^E*LB:=Nat.mul_le_mul_left _ (by unfold LB;decide)
  unfold LB at *
  omega
 have hA:=Lib.hid (fun W h g=>Kh W (.slice A L c) (.slice B K d) n m h g (by omega) (by omega) _ rfl)
 have hM:=Lib.hid (fun W v (h:Un W v (n+m))=>dL W p v (limbs (n+m)) h hsl _ (aI _) y hy)
 clear hl hl2 hu hv hy kZ vW hsl
 all_goals (
  go_enter Tryz.func55,Tryz.ntmps55
  go_wp2
  go_region_held3 (fun X=>(w.heap.size+1+1<X.heap.size∧X.cell? ⟨w.heap.size,0,none⟩=some (.bool p)∧X.cell? ⟨w.heap.size,1,none⟩=some (.slice A L c)∧X.cell? ⟨w.heap.size+1,0,none⟩=some (.bool p)∧X.cell? ⟨w.heap.size+1,1,none⟩=some (.slice B K d))∧Ext w X)
   (first
    | assumption
    | exact hS0
    | exact uB (by assumption) (by assumption)
    | exact uC (by assumption))
   (first
    | (go_at_call 95;((with_reducible refine (hA.out _ hu0 hv0).mono ?_);rintro e w2 ⟨u,rfl,hu2,hE2⟩;obtain ⟨A2,c2,rfl,-⟩:=Un.sh hu2))
    | (go_at_call 62;((with_reducible refine (hM.out _ _ hu2).mono ?_);rintro e w3 ⟨u,rfl,hz3,aO⟩;obtain ⟨b3,A3,L3,c3,rfl⟩:=hz3.sh;have nX:=(hI0.ext hE2).ext aO;obtain ⟨i0,i1,i2,i3,i4⟩:=id nX)))
  clear nX hA hM
  go_wp2
  (try simp only [Exit.inBlock,Exit.then])
  refine bodyPost_ret (v:=.agg #[.bool b3,.slice A3 L3 c3]) (show (results _ _).run _ _=_ from ?_) rfl ⟨_,rfl,hz3.fZ ((hI0.ext hE2).ext aO) (dw _ _ _) _ _,((hE0.below hE2).below aO).fZ (by omega) _ _⟩
  simp only [results]
  go_simp)
theorem uD (w:World) (p:Bool) (A B:Option Addr) (L K c d n m:Nat) (hu:Un w (.slice A L c) n) (hv:Un w (.slice B K d) m) (hl:(limbs n).length≤1000000) (hl2:(limbs m).length≤1000000) (y:Int) (hy:(if m≤n then sg p (n-m) else sg (!p) (m-n))=y) :
  Calls Tryz.prog 55 #[.agg #[.bool p,.slice A L c],.agg #[.bool (!p),.slice B K d]] w fun e w'=>∃ u,e = .returned u∧Zn w' u y∧Ext w w':=by
 have hE0:=(((Ext.refl w).alloc (.cells #[.bool p,.slice A L c] 24)).alloc (.cells #[.bool (!p),.slice B K d] 24)).alloc (.cells #[.bool false,.slice none 0 0] 24)
 have hI0:=Ib.zu w (.cells #[.bool p,.slice A L c] 24) (.cells #[.bool (!p),.slice B K d] 24) false (.slice none 0 0) 24
 have kZ:=(Ib.new w p (.slice A L c) 24).ext (((Ext.refl _).alloc (.cells #[.bool (!p),.slice B K d] 24)).alloc (.cells #[.bool false,.slice none 0 0] 24))
 have vW:=(Ib.new2 w (.cells #[.bool p,.slice A L c] 24) (!p) (.slice B K d) 24).ext ((Ext.refl _).alloc (.cells #[.bool false,.slice none 0 0] 24))
 have hu0:=hu.below hE0
 have hv0:=hv.below hE0
 obtain ⟨d1,hd1⟩:∃ d,n-m=d:=⟨_,rfl⟩
 obtain ⟨d2,hd2⟩:∃ d,m-n=d:=⟨_,rfl⟩
 have hl3:(limbs d1).length≤1000000000:=by have:=mJ (show d1≤n by omega);omega
 have hl4:(limbs d2).length≤1000000000:=by have:=mJ (show d2≤m by omega);omega
 rw [hd1,hd2] at hy
 by_cases h0:m≤n
 · rw [if_pos h0] at hy
   have hA:=Lib.hid (fun W h g=>xI W (.slice A L c) (.slice B K d) n m h g (by omega) (by omega) true (decide_eq_true h0) d1 hd1)
   have hM:=Lib.hid (fun W v (h:Un W v d1)=>dL W p v (limbs d1) h hl3 _ (aI _) y hy)
   clear hl hl2 hu hv hy hl3 hl4 hd1 hd2 h0
   cases p
   all_goals (
    go_enter Tryz.func55,Tryz.ntmps55
    go_wp2_with (first
     | (go_at_call 96;refine (hA.out _ hu0 hv0).mono ?_;rintro e w2 ⟨u,rfl,hu2,hE2⟩;obtain ⟨A2,c2,rfl,-⟩:=Un.sh hu2;obtain ⟨p0,p1,p2,p3,p4⟩:=kZ.ext hE2;obtain ⟨q0,q1,q2,q3,q4⟩:=vW.ext hE2)
     | (go_at_call 62;refine (hM.out _ _ hu2).mono ?_;rintro e w3 ⟨u,rfl,hz3,aO⟩;obtain ⟨b3,A3,L3,c3,rfl⟩:=hz3.sh;have nX:=(hI0.ext hE2).ext aO;obtain ⟨i0,i1,i2,i3,i4⟩:=id nX))
    (try simp only [Exit.inBlock,Exit.then])
    refine bodyPost_ret (v:=.agg #[.bool b3,.slice A3 L3 c3]) (show (results _ _).run _ _=_ from ?_) rfl ⟨_,rfl,hz3.fZ ((hI0.ext hE2).ext aO) (dw _ _ _) _ _,((hE0.below hE2).below aO).fZ (by omega) _ _⟩
    simp only [results]
    go_simp)
 · rw [if_neg h0] at hy
   have hA:=Lib.hid (fun W h g=>xI W (.slice A L c) (.slice B K d) n m h g (by omega) (by omega) false (decide_eq_false h0) d1 hd1)
   have hA2:=Lib.hid (fun W h g=>xI W (.slice B K d) (.slice A L c) m n h g (by omega) (by omega) _ rfl d2 hd2)
   have hM:=Lib.hid (fun W v (h:Un W v d2)=>dL W (!p) v (limbs d2) h hl4 _ (aI _) y hy)
   clear hl hl2 hu hv hy hl3 hl4 hd1 hd2 h0
   cases p
   all_goals (
    go_enter Tryz.func55,Tryz.ntmps55
    go_upto_region 6 with (go_at_call 96;refine (hA.out _ hu0 hv0).mono ?_;rintro e w2 ⟨u,rfl,hu2,hE2⟩;obtain ⟨A2,c2,rfl,-⟩:=Un.sh hu2;obtain ⟨p0,p1,p2,p3,p4⟩:=kZ.ext hE2;obtain ⟨q0,q1,q2,q3,q4⟩:=vW.ext hE2)
    go_wp2_with (first
     | (go_at_call 96;refine (hA2.out _ (Un.below hv0 hE2) (Un.below hu0 hE2)).mono ?_;rintro e w4 ⟨u,rfl,Ki,aR⟩;obtain ⟨A4,c4,rfl,-⟩:=Un.sh Ki;obtain ⟨p0,p1,p2,p3,p4⟩:=(kZ.ext hE2).ext aR;obtain ⟨q0,q1,q2,q3,q4⟩:=(vW.ext hE2).ext aR)
     | (go_at_call 62;refine (hM.out _ _ Ki).mono ?_;rintro e w3 ⟨u,rfl,hz3,aO⟩;obtain ⟨b3,A3,L3,c3,rfl⟩:=hz3.sh;have nX:=((hI0.ext hE2).ext aR).ext aO;obtain ⟨i0,i1,i2,i3,i4⟩:=id nX))
    (try simp only [Exit.inBlock,Exit.then])
    refine bodyPost_ret (v:=.agg #[.bool b3,.slice A3 L3 c3]) (show (results _ _).run _ _=_ from ?_) rfl ⟨_,rfl,hz3.fZ (((hI0.ext hE2).ext aR).ext aO) (dw _ _ _) _ _,(((hE0.below hE2).below aR).below aO).fZ (by omega) _ _⟩
    simp only [results]
    go_simp)
theorem IC (w:World) (va vb:Value) (a b:Int) (ha:Zn w va a) (hb:Zn w vb b) (hl:(limbs a.natAbs).length≤1000000) (hl2:(limbs b.natAbs).length≤1000000) (y:Int) (hy:a+b=y) :
  Calls Tryz.prog 55 #[va,vb] w fun e w'=>∃ u,e = .returned u∧Zn w' u y∧Ext w w':=by
 obtain ⟨p,A,L,c,n,rfl,hu,hL,hz,-,hza,hzn⟩:=ha.open
 obtain ⟨q,B,K,d,m,rfl,hv,hK,hz2,-,pJ,tZ⟩:=hb.open
 rw [hza] at hl
 rw [pJ] at hl2
 rw [hz,hz2] at hy
 by_cases h:q=p
 · subst h
   exact vX w q A B L K c d n m hu hv hl hl2 y ((ww _ _ _).trans hy)
 · obtain rfl:q = !p:=by cases p<;>cases q<;>first | rfl | exact absurd rfl h
   exact uD w p A B L K c d n m hu hv hl hl2 y ((uN _ _ _).trans hy)
theorem ry (w:World) (va vb:Value) (a b:Int) (ha:Zn w va a) (hb:Zn w vb b) (hl:(limbs a.natAbs).length≤398) (hl2:(limbs b.natAbs).length≤398) (y:Int) (hy:a*b=y) :
  Calls Tryz.prog 91 #[va,vb] w fun e w'=>∃ u,e = .returned u∧Zn w' u y∧Ext w w':=by
 obtain ⟨p,A,L,c,n,rfl,hu,hL,hz,-,hza,hzn⟩:=ha.open
 obtain ⟨q,B,K,d,m,rfl,hv,hK,hz2,-,pJ,tZ⟩:=hb.open
 rw [hza] at hl
 rw [pJ] at hl2
 obtain ⟨k,hk⟩:∃ k,n*m=k:=⟨_,rfl⟩
 have hM:=Lib.hid (fun W h g=>Ca W (.slice A L c) (.slice B K d) n m k h g hl hl2 hk)
 have hkl:(limbs k).length≤1000000000:=by
  have:=xJ n m
  rw [hk] at this
  omega
 have Kg:=Lib.hid (fun W v (h:Un W v k)=>dL W (!(p==q)) v (limbs k) h hkl k (aI _) y (by rw [← hk,xH,← hz,← hz2];exact hy))
 have hE0:=((((Ext.refl w).alloc (.cells #[.bool p,.slice A L c] 24)).alloc (.cells #[.bool q,.slice B K d] 24)).alloc (.cells #[.bool false,.slice none 0 0] 24)).drew
 have hI0:=(Ib.zu w (.cells #[.bool p,.slice A L c] 24) (.cells #[.bool q,.slice B K d] 24) false (.slice none 0 0) 24).ext (Ext.refl _).drew
 have kZ:=(Ib.new w p (.slice A L c) 24).ext ((((Ext.refl _).alloc (.cells #[.bool q,.slice B K d] 24)).alloc (.cells #[.bool false,.slice none 0 0] 24)).drew)
 have vW:=(Ib.new2 w (.cells #[.bool p,.slice A L c] 24) q (.slice B K d) 24).ext (((Ext.refl _).alloc (.cells #[.bool false,.slice none 0 0] 24)).drew)
 have hu0:=hu.below hE0
 have hv0:=hv.below hE0
 obtain ⟨p0,p1,p2,p3,p4⟩:=id kZ
 obtain ⟨q0,q1,q2,q3,q4⟩:=id vW
 clear hl hl2 hza hzn pJ tZ hz hz2 hL hK ha hb hy hk
 go_enter Tryz.func91,Tryz.ntmps91
 have hS0:(w.heap.size+1+1<(((w.alloc (.cells #[.bool p,.slice A L c] 24)).alloc (.cells #[.bool q,.slice B K d] 24)).alloc (.cells #[.bool false,.slice none 0 0] 24)).drew.heap.size∧(((w.alloc (.cells #[.bool p,.slice A L c] 24)).alloc (.cells #[.bool q,.slice B K d] 24)).alloc (.cells #[.bool false,.slice none 0 0] 24)).drew.cell? ⟨w.heap.size,0,none⟩=some (.bool p)∧(((w.alloc (.cells #[.bool p,.slice A L c] 24)).alloc (.cells #[.bool q,.slice B K d] 24)).alloc (.cells #[.bool false,.slice none 0 0] 24)).drew.cell? ⟨w.heap.size,1,none⟩=some (.slice A L c)∧(((w.alloc (.cells #[.bool p,.slice A L c] 24)).alloc (.cells #[.bool q,.slice B K d] 24)).alloc (.cells #[.bool false,.slice none 0 0] 24)).drew.cell? ⟨w.heap.size+1,0,none⟩=some (.bool q)∧(((w.alloc (.cells #[.bool p,.slice A L c] 24)).alloc (.cells #[.bool q,.slice B K d] 24)).alloc (.cells #[.bool false,.slice none 0 0] 24)).drew.cell? ⟨w.heap.size+1,1,none⟩=some (.slice B K d))∧Ext w (((w.alloc (.cells #[.bool p,.slice A L c] 24)).alloc (.cells #[.bool q,.slice B K d] 24)).alloc (.cells #[.bool false,.slice none 0 0] 24)).drew:=⟨⟨by simp,p1,p2,q1,q2⟩,hE0⟩
 clear p0 p1 p2 p3 p4 q0 q1 q2 q3 q4
 go_wp2
 go_region_held3 (fun X=>(w.heap.size+1+1<X.heap.size∧X.cell? ⟨w.heap.size,0,none⟩=some (.bool p)∧X.cell? ⟨w.heap.size,1,none⟩=some (.slice A L c)∧X.cell? ⟨w.heap.size+1,0,none⟩=some (.bool q)∧X.cell? ⟨w.heap.size+1,1,none⟩=some (.slice B K d))∧Ext w X)
  (first
   | exact hS0
   | exact uB (by assumption) (by assumption)
   | exact uC (by assumption))
  (first
   | (go_at_call 128;((with_reducible refine (hM.out _ hu0 hv0).mono ?_);rintro e w2 ⟨u,rfl,hu2,hE2⟩;obtain ⟨A2,c2,rfl,hc2⟩:=Un.sh hu2))
   | (go_at_call 62;((with_reducible refine (Kg.out _ _ hu2).mono ?_);rintro e w3 ⟨u,rfl,hz3,aO⟩;obtain ⟨b3,A3,L3,c3,rfl⟩:=hz3.sh;have nX:=(hI0.ext hE2).ext aO;obtain ⟨i0,i1,i2,i3,i4⟩:=id nX)))
 clear nX hM Kg
 go_wp2
 (try simp only [Exit.inBlock,Exit.then])
 refine bodyPost_ret (v:=.agg #[.bool b3,.slice A3 L3 c3]) (show (results _ _).run _ _=_ from ?_) rfl ⟨_,rfl,hz3.fZ ((hI0.ext hE2).ext aO) (dw _ _ _) _ _,((hE0.below hE2).below aO).fZ (by omega) _ _⟩
 simp only [results]
 go_simp
end Go.Proofs.YtdpmbgomcjnohaaGreatDoor
namespace Go.Proofs.YtdpmbgomcjnohaaGreatDoor
open Go.RowKit
set_option linter.all false
set_option maxRecDepth 100000
set_option maxHeartbeats 8000000
theorem vR (w:World) (va:Value) (b:Bool) (xs:List Nat) (ha:Ri w va b xs) (k:Int) (hk0:0≤k) (hk1:k≤1000000) (n:Nat) (hn:gN xs k.toNat=n) (hl:(limbs n).length≤1000000) (y:Int) (hy:sg b n=y) :
  Calls Tryz.prog 16 #[va,.int .i64 k] w fun e w'=>∃ u,e = .returned u∧Zn w' u y∧Ext w w':=by
 obtain ⟨A,c,rfl,hu⟩:=ha
 obtain ⟨L,hL⟩:∃ L,xs.length=L:=⟨_,rfl⟩
 have ED:=Lib.hid (fun W h=>uh W (.slice A xs.length c) xs k h hk0 (by omega) n hn)
 rw [hL] at ED hu ⊢
 have hE0:=(((Ext.refl w).alloc (.cells #[.bool b,.slice A L c] 24)).alloc (.cells #[.bool false,.slice none 0 0] 24)).drew
 have hI0:=(Ib.new2 w (.cells #[.bool b,.slice A L c] 24) false (.slice none 0 0) 24).ext (Ext.refl _).drew
 have kZ:=(Ib.new w b (.slice A L c) 24).ext (((Ext.refl _).alloc (.cells #[.bool false,.slice none 0 0] 24)).drew)
 have hS0:(w.heap.size+1<((w.alloc (.cells #[.bool b,.slice A L c] 24)).alloc (.cells #[.bool false,.slice none 0 0] 24)).drew.heap.size∧((w.alloc (.cells #[.bool b,.slice A L c] 24)).alloc (.cells #[.bool false,.slice none 0 0] 24)).drew.cell? ⟨w.heap.size,0,none⟩=some (.bool b)∧((w.alloc (.cells #[.bool b,.slice A L c] 24)).alloc (.cells #[.bool false,.slice none 0 0] 24)).drew.cell? ⟨w.heap.size,1,none⟩=some (.slice A L c))∧Ext w ((w.alloc (.cells #[.bool b,.slice A L c] 24)).alloc (.cells #[.bool false,.slice none 0 0] 24)).drew:=⟨⟨by simp,kZ.2.1,kZ.2.2.1⟩,hE0⟩
 have hu0:=hu.below hE0
 have hM1:=Lib.hid (fun W v (h:Un W v n)=>dL W b v (limbs n) h (by omega) n (aI _) y hy)
 clear kZ hy hn hL hl hu hk0 hk1
 go_enter Tryz.func16,Tryz.ntmps16
 go_wp2
 go_region_held3 (fun X=>(w.heap.size+1<X.heap.size∧X.cell? ⟨w.heap.size,0,none⟩=some (.bool b)∧X.cell? ⟨w.heap.size,1,none⟩=some (.slice A L c))∧Ext w X)
  (first
   | assumption
   | with_reducible exact hS0
   | with_reducible exact vP (by assumption)
   | exact vO (by assumption) (by assumption))
  (first
   | (go_at_call 63;((with_reducible refine (ED.out _ hu0).mono ?_);rintro e w2 ⟨u,rfl,hu2,hE2⟩;obtain ⟨A2,c2,rfl,-⟩:=Un.sh hu2))
   | (go_at_call 62;((with_reducible refine (hM1.out _ _ hu2).mono ?_);rintro e w3 ⟨u,rfl,hz3,aO⟩;obtain ⟨b3,A3,L3,c3,rfl⟩:=hz3.sh;have nX:=(hI0.ext hE2).ext aO;obtain ⟨i0,i1,i2,i3,i4⟩:=id nX)))
 clear nX ED hM1
 go_wp2
 (try simp only [Exit.inBlock,Exit.then])
 refine bodyPost_ret (v:=.agg #[.bool b3,.slice A3 L3 c3]) (show (results _ _).run _ _=_ from ?_) rfl ⟨_,rfl,hz3.fZ ((hI0.ext hE2).ext aO) (dw _ _ _) _ _,((hE0.below hE2).below aO).fZ (by omega) _ _⟩
 simp only [results]
 go_simp
end Go.Proofs.YtdpmbgomcjnohaaGreatDoor
namespace Go.Proofs.YtdpmbgomcjnohaaGreatDoor
open Go.RowKit
set_option linter.all false
set_option maxRecDepth 100000
set_option maxHeartbeats 8000000
theorem bX (a:Int) (i:Nat):shl a (-(i:Int))=a/2^i:=by
 unfold shl
 rcases Nat.eq_zero_or_pos i with rfl | h
 · simp
 · rw [if_neg (by omega),Int.neg_neg];rfl
theorem oU (w:World) (va:Value) (b:Bool) (xs:List Nat) (ha:Ri w va b xs) (k:Nat) (z:Int) (hz:z=(k:Int)) (hk1:k≤1000000) (y:Int) (hy:sg b (gN xs k)=y) :
  Calls Tryz.prog 16 #[va,.int .i64 z] w fun e w'=>∃ u,e = .returned u∧Zn w' u y∧Ext w w':=by
 subst hz
 obtain ⟨A,c,e,hu⟩:=id ha
 exact vR w va b xs ha (k:Int) (by omega) (by omega) (gN xs k) rfl (Nat.le_trans (kW xs k hu.lim) hk1) y hy
end Go.Proofs.YtdpmbgomcjnohaaGreatDoor
namespace Go.Proofs.YtdpmbgomcjnohaaGreatDoor
open Go.RowKit 
set_option linter.all false
set_option maxRecDepth 100000
set_option maxHeartbeats 8000000
theorem mE (w:World) (vn vd:Value) (n d:Int) (q:Rat) (hn:Zn w vn n) (hd:Zn w vd d) (L M:Nat) (ln:Sz n L) (ld:Sz d M) (hL:L≤100) (hM:M≤100) (hd0:d≠0) (hq:Rat.divInt n d=q) :
  Calls Tryz.prog 83 #[vn,vd] w fun e w'=>∃ u,e = .returned u∧Qn w' u q L M∧Pl.Ex w w':=by
 obtain ⟨An,cn,rfl,un⟩:=hn
 obtain ⟨Ad,cd,rfl,ud⟩:=hd
 refine Pl.bL (n:=14) (vs:=[.agg #[.bool (decide (n<0)),.slice An (limbs (Int.natAbs n)).length cn],.agg #[.bool (decide (d<0)),.slice Ad (limbs (Int.natAbs d)).length cd]]) Tryz.func83 rfl (by kernel_rfl) (by simp) ?_
 repeat refine Pl.ay ?_
 refine Pl.aB (by kernel_rfl) ?_
 refine Pl.dN (cs:=[.bool (decide (n<0)),.slice An (limbs (Int.natAbs n)).length cn]) rfl rfl rfl rfl rfl rfl (fun Y hY=>trivial) ?_
 intro N1 w1 hE1 eP aC
 have ig:=Pl.Cb.lt aC
 have mH:=Pl.Ex.size hE1
 refine Pl.dN (cs:=[.bool (decide (d<0)),.slice Ad (limbs (Int.natAbs d)).length cd]) rfl rfl rfl rfl rfl rfl (fun Y hY=>trivial) ?_
 intro N2 w2 hE2 gD aD
 have iB:=Pl.Cb.lt aD
 have mY:=Pl.Ex.size hE2
 refine Pl.aU (z:=.agg #[.bool false,.slice none 0 0,.slice none 0 0]) (by kernel_rfl) rfl rfl rfl rfl (fun Y hY=>trivial) ?_
 intro N3 w3 aO jP aL
 have iJ:=Pl.Cb.lt aL
 have mZ:=Pl.Ex.size aO
 replace aL:Pl.Cb w3 N3 41 [.bool false,.slice none 0 0,.slice none 0 0]:=aL
 refine Pl.af ?_
 repeat refine Pl.ay ?_
 refine Pl.aB (by kernel_rfl) ?_
 refine Pl.dJ (part:=[.bool (decide (n<0)),.slice An (limbs (Int.natAbs n)).length cn]) (Pl.Cb.ex aC (Pl.Ex.trans hE2 aO)) rfl Tryz.underlying24 rfl (by kernel_rfl) trivial rfl rfl rfl rfl rfl ?_
 refine Pl.dJ (part:=[.bool (decide (d<0)),.slice Ad (limbs (Int.natAbs d)).length cd]) (Pl.Cb.ex aD aO) rfl Tryz.underlying24 rfl (by kernel_rfl) trivial rfl rfl rfl rfl rfl ?_
 refine Pl.ah rfl rfl rfl rfl rfl (fun u X=>Pl.enters Tryz.func97 (by kernel_rfl) rfl u X) ?_
 refine Calls.mono (oH _ _ _ n d (Zn.of (Un.below un (Pl.Ex.trans hE1 (Pl.Ex.trans hE2 aO)))) (Zn.of (Un.below ud (Pl.Ex.trans hE1 (Pl.Ex.trans hE2 aO)))) L M ln ld hL hM hd0) ?_
 rintro e w4 ⟨vq,rfl,zJ,aR⟩
 rw [hq] at zJ
 obtain ⟨A1,c1,A2,c2,rfl,u1,u2,z1,z2⟩:=zJ
 have l9:=Pl.Ex.size aR
 refine ⟨_,rfl,trivial,?_⟩
 refine Pl.aG trivial rfl ?_
 refine Pl.aU (z:=.agg #[.bool false,.slice none 0 0,.slice none 0 0]) (by kernel_rfl) rfl rfl rfl rfl (fun Y hY=>trivial) ?_
 intro N4 w5 aP iG aF
 have fE:=Pl.Cb.lt aF
 have jY:=Pl.Ex.size aP
 replace aF:Pl.Cb w5 N4 41 [.bool false,.slice none 0 0,.slice none 0 0]:=aF
 refine Pl.bg (new:=[.bool (decide ((Rat.num q)<0)),.slice A1 (limbs (Int.natAbs (Rat.num q))).length c1,.slice A2 (limbs (Rat.den q)).length c2]) aF (by kernel_rfl) rfl (by simp [Value.oneCell']) rfl rfl rfl rfl rfl rfl (fun Y hY=>trivial) ?_
 intro w6 lS fB
 have aM:=Pl.Ex.xs aP lS (by omega)
 have jr:=Pl.Xs.size lS
 refine Pl.aG trivial rfl ?_
 refine Pl.af ?_
 repeat refine Pl.ay ?_
 refine Pl.aB (by kernel_rfl) ?_
 refine Pl.dJ (part:=[.bool (decide ((Rat.num q)<0)),.slice A1 (limbs (Int.natAbs (Rat.num q))).length c1,.slice A2 (limbs (Rat.den q)).length c2]) fB rfl Tryz.underlying41 rfl (by kernel_rfl) trivial rfl rfl rfl rfl rfl ?_
 refine Pl.bg (new:=[.bool (decide ((Rat.num q)<0)),.slice A1 (limbs (Int.natAbs (Rat.num q))).length c1,.slice A2 (limbs (Rat.den q)).length c2]) (Pl.Cb.ex aL (Pl.Ex.trans aR aM)) (by kernel_rfl) rfl (by simp [Value.oneCell']) rfl rfl rfl rfl rfl rfl (fun Y hY=>trivial) ?_
 intro w7 gP dX
 have aH:=Pl.Ex.xs (Pl.Ex.trans aO (Pl.Ex.trans aR aM)) gP (by omega)
 have iU:=Pl.Xs.size gP
 have jZ:=Pl.Cb.xs fB gP (by simp;omega)
 refine Pl.af ?_
 have k5:=Un.xs (Un.below u1 aM) gP (Pl.Cb.ex aL (Pl.Ex.trans aR aM)) (by simp)
 have k6:=Un.xs (Un.below u2 aM) gP (Pl.Cb.ex aL (Pl.Ex.trans aR aM)) (by simp)
 repeat refine Pl.ay ?_
 exact Pl.cO rfl rfl dX Tryz.underlying41 rfl (by kernel_rfl) (⟨_,rfl,(Qn.mk k5 k6 z1 z2),(Pl.Ex.trans hE1 (Pl.Ex.trans hE2 aH))⟩)
end Go.Proofs.YtdpmbgomcjnohaaGreatDoor
namespace Go.Proofs.YtdpmbgomcjnohaaGreatDoor
open Go.RowKit 
set_option linter.all false
set_option maxRecDepth 100000
set_option maxHeartbeats 8000000
theorem jg (w:World) (vn:Value) (n:Int) (L:Nat) (hn:Zn w vn n) (ln:Sz n L) :
  Calls Tryz.prog 82 #[vn] w fun e w'=>∃ u,e = .returned u∧Qn w' u ((n:Int):Rat) L 1∧Pl.Ex w w':=by
 obtain ⟨An,cn,rfl,un⟩:=hn
 refine Pl.bL (n:=6) (vs:=[.agg #[.bool (decide (n<0)),.slice An (limbs (Int.natAbs n)).length cn]]) Tryz.func82 rfl (by kernel_rfl) (by simp) ?_
 repeat refine Pl.ay ?_
 refine Pl.aB (by kernel_rfl) ?_
 refine Pl.dN (cs:=[.bool (decide (n<0)),.slice An (limbs (Int.natAbs n)).length cn]) rfl rfl rfl rfl rfl rfl (fun Y hY=>trivial) ?_
 intro N1 w1 hE1 eP aC
 have ig:=Pl.Cb.lt aC
 have mH:=Pl.Ex.size hE1
 refine Pl.aU (z:=.agg #[.bool false,.slice none 0 0,.slice none 0 0]) (by kernel_rfl) rfl rfl rfl rfl (fun Y hY=>trivial) ?_
 intro N2 w2 hE2 gD aD
 have iB:=Pl.Cb.lt aD
 have mY:=Pl.Ex.size hE2
 replace aD:Pl.Cb w2 N2 41 [.bool false,.slice none 0 0,.slice none 0 0]:=aD
 refine Pl.af ?_
 repeat refine Pl.ay ?_
 refine Pl.aB (by kernel_rfl) ?_
 refine Pl.dJ (part:=[.bool (decide (n<0)),.slice An (limbs (Int.natAbs n)).length cn]) (Pl.Cb.ex aC hE2) rfl Tryz.underlying24 rfl (by kernel_rfl) trivial rfl rfl rfl rfl rfl ?_
 refine Pl.F3 (e := 67) (n:=1) [.int .u32 1] rfl rfl rfl rfl (by kernel_rfl) (fun Y hY=>trivial) ?_
 intro N3 w3 aO jP aL
 have iJ:=Pl.Cb.lt aL
 have mZ:=Pl.Ex.size aO
 refine Pl.bC (.agg #[.bool (decide (n<0)),.slice An (limbs (Int.natAbs n)).length cn,.slice (some ⟨N3,0,none⟩) 1 1]) trivial rfl rfl rfl rfl (fun X=>by kernel_rfl) ?_
 refine Pl.bg (new:=[.bool (decide (n<0)),.slice An (limbs (Int.natAbs n)).length cn,.slice (some ⟨N3,0,none⟩) 1 1]) (Pl.Cb.ex aD aO) (by kernel_rfl) rfl (by simp [Value.oneCell']) rfl rfl rfl rfl rfl rfl (fun Y hY=>trivial) ?_
 intro w4 yH dG
 have aR:=Pl.Ex.xs (Pl.Ex.trans hE2 aO) yH (by omega)
 have l9:=Pl.Xs.size yH
 have dX:=Pl.Cb.xs aL yH (by simp;omega)
 refine Pl.af ?_
 have hl4:=Un.one (x:=1) dX rfl (by omega)
 repeat refine Pl.ay ?_
 exact Pl.cO rfl rfl dG Tryz.underlying41 rfl (by kernel_rfl) (⟨_,rfl,Qn.of (q:=((n:Int):Rat)) rfl rfl (Un.below un (Pl.Ex.trans hE1 aR)) hl4 ln (show Sn 1 1 from Sn.of (by decide)),(Pl.Ex.trans hE1 aR)⟩)
theorem og (w:World) (va vb:Value) (p q:Rat) (L M L2 M2:Nat) (ha:Qn w va p L M) (hb:Qn w vb q L2 M2) (K N:Nat) (h1:L+L2≤K) (h3:M+M2≤N) (hK:K≤100) (hN:N≤100) :
  Calls Tryz.prog 48 #[va,vb] w fun e w'=>∃ u,e = .returned u∧Qn w' u (p*q) K N∧Pl.Ex w w':=by
 obtain ⟨Aa,ca,Ba,ba,rfl,ua,ta,za,ya⟩:=ha
 obtain ⟨Ab,cb,Bb,bb,rfl,ub,tb,zb,yb⟩:=hb
 refine Pl.bL (n:=18) (vs:=[.agg #[.bool (decide ((Rat.num p)<0)),.slice Aa (limbs (Int.natAbs (Rat.num p))).length ca,.slice Ba (limbs (Rat.den p)).length ba],.agg #[.bool (decide ((Rat.num q)<0)),.slice Ab (limbs (Int.natAbs (Rat.num q))).length cb,.slice Bb (limbs (Rat.den q)).length bb]]) Tryz.func48 rfl (by kernel_rfl) (by simp) ?_
 repeat refine Pl.ay ?_
 refine Pl.aB (by kernel_rfl) ?_
 refine Pl.dN (cs:=[.bool (decide ((Rat.num p)<0)),.slice Aa (limbs (Int.natAbs (Rat.num p))).length ca,.slice Ba (limbs (Rat.den p)).length ba]) rfl rfl rfl rfl rfl rfl (fun Y hY=>trivial) ?_
 intro N1 w1 hE1 eP aC
 have ig:=Pl.Cb.lt aC
 have mH:=Pl.Ex.size hE1
 refine Pl.dN (cs:=[.bool (decide ((Rat.num q)<0)),.slice Ab (limbs (Int.natAbs (Rat.num q))).length cb,.slice Bb (limbs (Rat.den q)).length bb]) rfl rfl rfl rfl rfl rfl (fun Y hY=>trivial) ?_
 intro N2 w2 hE2 gD aD
 have iB:=Pl.Cb.lt aD
 have mY:=Pl.Ex.size hE2
 refine Pl.aU (z:=.agg #[.bool false,.slice none 0 0,.slice none 0 0]) (by kernel_rfl) rfl rfl rfl rfl (fun Y hY=>trivial) ?_
 intro N3 w3 aO jP aL
 have iJ:=Pl.Cb.lt aL
 have mZ:=Pl.Ex.size aO
 replace aL:Pl.Cb w3 N3 41 [.bool false,.slice none 0 0,.slice none 0 0]:=aL
 refine Pl.af ?_
 repeat refine Pl.ay ?_
 refine Pl.fJ (S:=fun X=>Pl.Ex w2 X) [(true,0,0),(true,1,1),(true,2,3),(true,3,7),(true,5,15),(true,6,47),(true,8,111),(true,9,367),(false,4,879),(false,7,895),(false,10,1023),(false,11,2047),(false,12,4095),(false,13,8191)] fo Pl.az (by kernel_rfl) (Pl.Ex.trans aO (Pl.Ex.drew _)) ?_
 have aR:=Pl.Ex.drew w3
 generalize w3.drew=w4 at *
 have l9:=Pl.Ex.size aR
 intro dP
 refine Pl.bC (.pointer (some ⟨N1,0,none⟩)) dP rfl rfl rfl rfl (fun X=>by kernel_rfl) ?_
 refine Pl.bT (part:=[.bool (decide ((Rat.num p)<0)),.slice Aa (limbs (Int.natAbs (Rat.num p))).length ca]) (fun X hX=>Pl.Cb.ex (Pl.Cb.ex aC hE2) hX) rfl Tryz.underlying24 rfl (by kernel_rfl) dP rfl rfl rfl rfl rfl ?_
 refine Pl.bC (.pointer (some ⟨N2,0,none⟩)) dP rfl rfl rfl rfl (fun X=>by kernel_rfl) ?_
 refine Pl.bT (part:=[.bool (decide ((Rat.num q)<0)),.slice Ab (limbs (Int.natAbs (Rat.num q))).length cb]) (fun X hX=>Pl.Cb.ex aD hX) rfl Tryz.underlying24 rfl (by kernel_rfl) dP rfl rfl rfl rfl rfl ?_
 refine Pl.bC (.pointer (some ⟨N1,2,none⟩)) dP rfl rfl rfl rfl (fun X=>by kernel_rfl) ?_
 refine Pl.iE (v:=.slice Ba (limbs (Rat.den p)).length ba) Tryz.underlying22 rfl (fun X hX=>Pl.Cb.at (j:=2) (Pl.Cb.ex (Pl.Cb.ex aC hE2) hX) rfl) dP rfl rfl rfl rfl rfl ?_
 refine Pl.bC (.pointer (some ⟨N2,2,none⟩)) dP rfl rfl rfl rfl (fun X=>by kernel_rfl) ?_
 refine Pl.iE (v:=.slice Bb (limbs (Rat.den q)).length bb) Tryz.underlying22 rfl (fun X hX=>Pl.Cb.at (j:=2) (Pl.Cb.ex aD hX) rfl) dP rfl rfl rfl rfl rfl ?_
 refine Pl.ah rfl rfl rfl rfl rfl (fun u X=>Pl.enters Tryz.func91 (by kernel_rfl) rfl u X) ?_
 refine Calls.mono (ry _ _ _ (Rat.num p) (Rat.num q) (Zn.of (Un.below ua (Pl.Ex.trans hE1 (Pl.Ex.trans hE2 (Pl.Ex.trans aO aR))))) (Zn.of (Un.below ub (Pl.Ex.trans hE1 (Pl.Ex.trans hE2 (Pl.Ex.trans aO aR))))) (Sz.le za (by omega)) (Sz.le zb (by omega)) _ rfl) ?_
 rintro e w5 ⟨v4,rfl,hv4,aP⟩
 obtain ⟨A5,c6,rfl,u7⟩:=hv4
 have jY:=Pl.Ex.size aP
 have hS5:=Pl.Ex.trans dP aP
 refine ⟨_,rfl,hS5,?_⟩
 refine Pl.ah rfl rfl rfl rfl rfl (fun u X=>Pl.enters Tryz.func84 (by kernel_rfl) rfl u X) ?_
 refine Calls.mono (fF _ _ (Rat.den p) (Un.below ta (Pl.Ex.trans hE1 (Pl.Ex.trans hE2 (Pl.Ex.trans aO (Pl.Ex.trans aR aP)))))) ?_
 rintro e w6 ⟨v8,rfl,EG,aM⟩
 obtain ⟨A9,c10,rfl,tY⟩:=EG
 have jr:=Pl.Ex.size aM
 have bS:=Pl.Ex.trans hS5 aM
 refine ⟨_,rfl,bS,?_⟩
 refine Pl.ah rfl rfl rfl rfl rfl (fun u X=>Pl.enters Tryz.func84 (by kernel_rfl) rfl u X) ?_
 refine Calls.mono (fF _ _ (Rat.den q) (Un.below tb (Pl.Ex.trans hE1 (Pl.Ex.trans hE2 (Pl.Ex.trans aO (Pl.Ex.trans aR (Pl.Ex.trans aP aM))))))) ?_
 rintro e w7 ⟨v12,rfl,nV,aH⟩
 obtain ⟨Et,c14,rfl,Ff⟩:=nV
 have iU:=Pl.Ex.size aH
 have bE:=Pl.Ex.trans bS aH
 refine ⟨_,rfl,bE,?_⟩
 refine Pl.ah rfl rfl rfl rfl rfl (fun u X=>Pl.enters Tryz.func91 (by kernel_rfl) rfl u X) ?_
 refine Calls.mono (ry _ _ _ (((Rat.den p):Nat):Int) (((Rat.den q):Nat):Int) (Zn.of (Un.below tY aH)) (Zn.of Ff) (Sz.le (Sn.sz ya) (by omega)) (Sz.le (Sn.sz yb) (by omega)) _ rfl) ?_
 rintro e w8 ⟨v16,rfl,EH,bu⟩
 obtain ⟨G5,c18,rfl,Fe⟩:=EH
 have mh:=Pl.Ex.size bu
 have bD:=Pl.Ex.trans bE bu
 refine ⟨_,rfl,bD,?_⟩
 refine Pl.ah rfl rfl rfl rfl rfl (fun u X=>Pl.enters Tryz.func83 (by kernel_rfl) rfl u X) ?_
 refine Calls.mono (mE _ _ _ ((Rat.num p)*(Rat.num q)) ((((Rat.den p):Nat):Int)*(((Rat.den q):Nat):Int)) (p*q) (Zn.of (Un.below u7 (Pl.Ex.trans aM (Pl.Ex.trans aH bu)))) (Zn.of Fe) (L+L2) (M+M2) (Sz.mul za zb (by omega):Sz ((Rat.num p)*(Rat.num q)) (L+L2)) (Sz.mul (Sn.sz ya) (Sn.sz yb) (by omega):Sz ((((Rat.den p):Nat):Int)*(((Rat.den q):Nat):Int)) (M+M2)) (by omega) (by omega) (Int.mul_ne_zero (show ((p.den:Nat):Int)≠0 by have:=p.den_pos;omega) (show ((q.den:Nat):Int)≠0 by have:=q.den_pos;omega)) (by rw [← Int.natCast_mul];exact Rq.Cc p q)) ?_
 rintro e w9 ⟨v20,rfl,ve,dh⟩
 obtain ⟨Dg,Dh,GZ,c24,rfl,u25,u26,Di,Dj⟩:=ve
 have pG:=Pl.Ex.size dh
 have bK:=Pl.Ex.trans bD dh
 refine ⟨_,rfl,bK,?_⟩
 refine Pl.bg (new:=[.bool (decide ((Rat.num (p*q))<0)),.slice Dg (limbs (Int.natAbs (Rat.num (p*q)))).length Dh,.slice GZ (limbs (Rat.den (p*q))).length c24]) (Pl.Cb.ex aL (Pl.Ex.trans aR (Pl.Ex.trans aP (Pl.Ex.trans aM (Pl.Ex.trans aH (Pl.Ex.trans bu dh)))))) (by kernel_rfl) rfl (by simp [Value.oneCell']) rfl rfl rfl rfl rfl rfl (fun Y hY=>Pl.Ex.xs bK hY (by omega)) ?_
 intro qD eU dX
 have bf:=Pl.Ex.xs (Pl.Ex.trans aO (Pl.Ex.trans aR (Pl.Ex.trans aP (Pl.Ex.trans aM (Pl.Ex.trans aH (Pl.Ex.trans bu dh)))))) eU (by omega)
 have mD:=Pl.Xs.size eU
 have gK:=Pl.Ex.xs bK eU (by omega)
 refine Pl.af ?_
 have k28:=Un.xs u25 eU (Pl.Cb.ex aL (Pl.Ex.trans aR (Pl.Ex.trans aP (Pl.Ex.trans aM (Pl.Ex.trans aH (Pl.Ex.trans bu dh)))))) (by simp)
 have Tz:=Un.xs u26 eU (Pl.Cb.ex aL (Pl.Ex.trans aR (Pl.Ex.trans aP (Pl.Ex.trans aM (Pl.Ex.trans aH (Pl.Ex.trans bu dh)))))) (by simp)
 repeat refine Pl.ay ?_
 exact Pl.cO rfl rfl dX Tryz.underlying41 rfl (by kernel_rfl) (⟨_,rfl,(Qn.le (Qn.mk k28 Tz Di Dj) (by omega) (by omega)),(Pl.Ex.trans hE1 (Pl.Ex.trans hE2 bf))⟩)
end Go.Proofs.YtdpmbgomcjnohaaGreatDoor
namespace Go.Proofs.YtdpmbgomcjnohaaGreatDoor
open Go.RowKit
set_option linter.all false
set_option maxRecDepth 100000
set_option maxHeartbeats 8000000
theorem nE {n:Nat} {cs:List Code} {l:List (Nat × Value)} {w:World} {fn:Func} {R:Ending→World→Prop} {t:Tmp} {N:Nat} {b:Bool} {m:Value} (hr:fn.results=#[.cell t 24]) (hv:Pl.look l t=some (.pointer (some ⟨N,0,none⟩)))
  (hI:Ib w N b m) (h:R (.returned (.agg #[.bool b,m])) w):Pl.V Tryz.prog (bodyPost Tryz.prog fn R) n [] (.ret::cs) l w:=Pl.Es fun a ha=>by
 refine ⟨ha.defers,_,?_,h⟩
 obtain ⟨h0,h1,h2,h3,h4⟩:=hI
 unfold results
 rw [hr]
 have e:a.tmps.getD t undef = .pointer (some ⟨N,0,none⟩):=by rw [Array.getD_eq_getD_getElem?,ha.look t _ hv];rfl
 simp only [List.mapM_toArray,List.mapM_cons,List.mapM_nil,e]
 go_simp
theorem wF (a:Int) (k:Nat):sg (decide (a<0)) (a.natAbs*2^k)=a*2^k:=by
 have e:((a.natAbs*2^k:Nat):Int)=(a.natAbs:Int)*2^k:=by push_cast;rfl
 by_cases h:a<0
 · rw [decide_eq_true h,zQ,e,← Int.neg_mul];congr 1;omega
 · rw [decide_eq_false h,uj,e];congr 1;omega
theorem eD (k:Nat):sg false (1*2^k)=(2:Int)^k:=by rw [uj,Nat.one_mul];push_cast;rfl
theorem uK {a:Int} {K k:Nat} (h:Sz a K) (hk:k<32*40):(limbs (a.natAbs*2^k)).length≤K+40:=by
 have:=(h.mul (Sz.two (n:=k) (M:=40) hk) (Nat.le_refl _))
 have e:(a*2^k).natAbs=a.natAbs*2^k:=by rw [Int.natAbs_mul,Int.natAbs_pow];rfl
 rw [← e];exact this
section
variable {x y:Operand}
end
end Go.Proofs.YtdpmbgomcjnohaaGreatDoor
namespace Go.Proofs.YtdpmbgomcjnohaaGreatDoor
open Go.RowKit
set_option linter.all false
set_option maxRecDepth 100000
set_option maxHeartbeats 8000000
namespace JE
set_option linter.all false
set_option maxRecDepth 100000
set_option maxHeartbeats 8000000
theorem gy (u:Array Value) (X:World):(callFunc 93 u).run Tryz.prog X = .ok (.enter 93 u) X:=Pl.enters Tryz.func93 (by kernel_rfl) rfl u X
theorem jm (u:Array Value) (X:World):(callFunc 62 u).run Tryz.prog X = .ok (.enter 62 u) X:=Pl.enters Tryz.func62 (by kernel_rfl) rfl u X
theorem mX (u:Array Value) (X:World):(callFunc 92 u).run Tryz.prog X = .ok (.enter 92 u) X:=Pl.enters Tryz.func92 (by kernel_rfl) rfl u X
end JE
open JE
theorem wG (w:World) (va:Value) (a s:Int) (ha:Zn w va a) (hl:Sz a 100) (h0:0≤s) (h1 : -900≤s) (h2:s≤900) :
  Calls Tryz.prog 51 #[va,.int .i64 s] w fun e w'=>∃ u,e = .returned u∧Zn w' u (shl a s)∧Ext w w':=by
 obtain ⟨A,c,rfl,hu⟩:=id ha
 obtain ⟨k,rfl⟩:∃ k:Nat,s=(k:Int):=⟨s.natAbs,by omega⟩
 refine Pl.bL (n:=29) (vs:=[.agg #[.bool (decide (a<0)),.slice A (limbs a.natAbs).length c],.int .i64 ((k:Nat):Int)]) Tryz.func51 rfl (by kernel_rfl) (by simp) ?_
 refine Pl.ay ?_
 refine Pl.aB (by kernel_rfl) ?_
 refine FE rfl rfl rfl rfl rfl (fun _ _=>trivial) ?_
 intro N1 w1 hB1 i_1
 refine bP rfl rfl rfl rfl (fun _ _=>trivial) ?_
 intro N2 w2 hB2 iB i_2
 refine Pl.af ?_
 refine Pl.ay ?_
 refine Pl.ay ?_
 refine Pl.aB (by kernel_rfl) ?_
 refine Pl.bN trivial rfl rfl rfl rfl rfl ?_
 refine Pl.xB (v:=(.bool true)) trivial rfl rfl rfl rfl rfl rfl (fun X=>zO (decide_eq_true h0) X) ?_
 refine Pl.af ?_
 refine Pl.iO rfl ?_
 refine Pl.ay ?_
 have hB3:=Ext.drew (Ext.refl w2)
 refine Pl.fJ (S:=fun X=>Ext w1 X) [(true,0,0),(true,1,1),(true,2,3),(true,3,7),(true,4,15),(false,5,31),(false,6,63),(false,7,127)] fo Pl.az (by kernel_rfl) (Ext.drew hB2) ?_
 generalize w2.drew=w3 at hB3 ⊢
 intro eY
 refine qW eY rfl rfl rfl rfl rfl (BI _) ?_
 refine Pl.qX eY rfl rfl rfl rfl rfl (fun X hX=>Ib.neg (Ib.ext i_1 hX)) ?_
 refine qW eY rfl rfl rfl rfl rfl (BH _) ?_
 refine Pl.qX eY rfl rfl rfl rfl rfl (fun X hX=>Ib.mag (Ib.ext i_1 hX)) ?_
 refine Pl.bN eY rfl rfl rfl rfl rfl ?_
 have FI:=Un.below hu (Ext.below hB1 (Ext.below hB2 hB3))
 refine Pl.ah rfl rfl rfl rfl rfl mX ?_
 refine Calls.mono (iA _ _ a.natAbs k FI (by omega) (Nat.le_trans hl (by decide)) _ rfl) ?_
 rintro e w4 ⟨ZE,rfl,MS,hB4⟩
 have dP:=Ext.below eY hB4
 refine ⟨_,rfl,dP,?_⟩
 refine Pl.ah rfl rfl rfl rfl rfl jm ?_
 refine Calls.mono (dL _ (decide (a<0)) _ (limbs (a.natAbs*2^k)) MS (Nat.le_trans (uK hl (by omega)) (by decide)) _ (aI _) (shl a ((k:Nat):Int)) ((wF a k).trans (vL a k).symm)) ?_
 rintro e w5 ⟨wH,rfl,jo,dx⟩
 have hS5:=Ext.below dP dx
 refine ⟨_,rfl,hS5,?_⟩
 have lY:Sz (shl a ((k:Nat):Int)) 140:=Sz.shl hl (by omega) (by decide)
 obtain ⟨ZF,ZG,ZH,ZI,rfl⟩:=Zn.sh jo
 have BJ:=Ib.ext i_2 (Ext.below hB3 (Ext.below hB4 dx))
 refine pO rfl rfl rfl rfl rfl rfl BJ (fun _ T=>T _ hS5 (Nat.le_trans (Below.size (Ext.refl w1)) iB)) ?_
 intro w6 FJ MU ZJ ZK
 have bU:=FJ _ (Ext.below hB2 (Ext.below hB3 (Ext.below hB4 dx))) (Nat.le_trans (Below.size (Ext.refl w1)) iB)
 have bS:=FJ _ hS5 (Nat.le_trans (Below.size (Ext.refl w1)) iB)
 have yL:=MU _ _ jo
 refine Pl.af ?_
 refine nE rfl rfl ZK ?_
 exact ⟨_,rfl,yL,(Ext.below hB1 bU)⟩
theorem wI (w:World) (va:Value) (a s:Int) (ha:Zn w va a) (hl:Sz a 100) (h0:¬ 0≤s) (h1 : -900≤s) (h2:s≤900) :
  Calls Tryz.prog 51 #[va,.int .i64 s] w fun e w'=>∃ u,e = .returned u∧Zn w' u (shl a s)∧Ext w w':=by
 obtain ⟨A,c,rfl,hu⟩:=id ha
 obtain ⟨k,rfl⟩:∃ k:Nat,s = -(k:Int):=⟨s.natAbs,by omega⟩
 refine Pl.bL (n:=29) (vs:=[.agg #[.bool (decide (a<0)),.slice A (limbs a.natAbs).length c],.int .i64 (-((k:Nat):Int))]) Tryz.func51 rfl (by kernel_rfl) (by simp) ?_
 refine Pl.ay ?_
 refine Pl.aB (by kernel_rfl) ?_
 refine FE rfl rfl rfl rfl rfl (fun _ _=>trivial) ?_
 intro N1 w1 hB1 i_1
 refine bP rfl rfl rfl rfl (fun _ _=>trivial) ?_
 intro N2 w2 hB2 iB i_2
 refine Pl.af ?_
 refine Pl.ay ?_
 refine Pl.ay ?_
 refine Pl.aB (by kernel_rfl) ?_
 refine Pl.bN trivial rfl rfl rfl rfl rfl ?_
 refine Pl.xB (v:=(.bool false)) trivial rfl rfl rfl rfl rfl rfl (fun X=>zO (decide_eq_false h0) X) ?_
 refine Pl.af ?_
 refine Pl.gm rfl ?_
 refine Pl.iK ?_
 refine Pl.ay ?_
 refine Pl.nG (S:=fun X=>Ext w2 X) fo (Ext.drew (Ext.refl _)) ?_
 generalize w2.drew=w3
 intro hB3
 have eY:=hB3
 refine Pl.fP 3 8191 (fun l' w'=>∃ (Jz:Nat) (JA:Nat) (FK:Value) (FL:Value),l'=[(4,.pointer (some ⟨N2,0,none⟩)),(5,.pointer (some ⟨Jz,0,none⟩)),(6,.pointer (some ⟨JA,0,none⟩)),(25,FK),(26,FL),(27,(.int .i64 0))]∧Ext w2 w'∧w2.heap.size≤Jz∧Ib w' Jz false (.slice none 0 0)∧w2.heap.size≤JA∧Ib w' JA false (.slice none 0 0)∧Zn w' FK (shl a (-((k:Nat):Int)))∧Zn w' FL (a%((2:Int)^k))∧Jz≠JA) ?_ ?_
 rotate_left
 · intro hK
   refine Pl.aZ [(true,0,0),(true,2,1),(true,3,5)] 13 13 Pl.az (by kernel_rfl) (by kernel_rfl) (by kernel_rfl) ?_
   have BK:=Ib.ext i_1 hB2
   refine Pl.qX eY rfl rfl rfl rfl rfl (fun X hX=>Ib.load (Ib.ext BK hX)) ?_
   refine Pl.bN eY rfl rfl rfl rfl rfl ?_
   refine Pl.mK (v:=(.int .i64 ((k:Nat):Int))) eY rfl rfl rfl rfl rfl (fun X=>FH (by omega) (by omega) (by omega) X) ?_
   refine Pl.af ?_
   refine Pl.cB [1,11,12] 12 (by kernel_rfl) (by kernel_rfl) (by kernel_rfl) (Pl.aj ?_ (Pl.aj ?_ (Pl.aj ?_ Pl.aJ)))
   · refine lK (n:=1) (by decide) rfl rfl rfl rfl rfl (fun _ k=>Ext.below eY k) ?_
     intro A3 w4 hB4 wJ
     have dP:=Ext.below eY hB4
     refine Pl.af ?_
     refine Pl.cB [4,11,12] 11 (by kernel_rfl) (by kernel_rfl) (by kernel_rfl) (Pl.aj ?_ (Pl.aj ?_ (Pl.aj ?_ Pl.aJ)))
     · refine Pl.ah rfl rfl rfl rfl rfl mX ?_
       refine Calls.mono (iA _ _ 1 k (U.one wJ) (by omega) (Nat.le_trans (Sz.lit (z:=1) (K:=1) (by decide) (by decide)) (by decide)) _ rfl) ?_
       rintro e w5 ⟨ZL,rfl,wK,dx⟩
       have hS5:=Ext.below dP dx
       refine ⟨_,rfl,hS5,?_⟩
       refine Pl.af ?_
       refine Pl.cB [5,11,12] 10 (by kernel_rfl) (by kernel_rfl) (by kernel_rfl) (Pl.aj ?_ (Pl.aj ?_ (Pl.aj ?_ Pl.aJ)))
       · refine Pl.ah rfl rfl rfl rfl rfl jm ?_
         refine Calls.mono (dL _ false _ (limbs (1*2^k)) wK (by rw [Nat.one_mul];exact Nat.le_trans (dQ (M:=40) (by omega)) (by decide)) _ (aI _) ((2:Int)^k) (eD k)) ?_
         rintro e w6 ⟨wH,rfl,jo,bU⟩
         have bS:=Ext.below hS5 bU
         refine ⟨_,rfl,bS,?_⟩
         have lY:Sz ((2:Int)^k) 40:=Sz.two (by omega)
         refine Pl.af ?_
         refine Pl.cB [6,11,12] 9 (by kernel_rfl) (by kernel_rfl) (by kernel_rfl) (Pl.aj ?_ (Pl.aj ?_ (Pl.aj ?_ Pl.aJ)))
         · have FM:=Zn.below ha (Ext.below hB1 (Ext.below hB2 (Ext.below hB3 (Ext.below hB4 (Ext.below dx bU)))))
           refine Pl.ah rfl rfl rfl rfl rfl gy ?_
           refine Calls.mono (bZ _ _ _ a ((2:Int)^k) FM jo (Sz.le hl (by decide)) (Sz.le lY (by decide)) (aS k) (shl a (-((k:Nat):Int))) _ (bX a k).symm rfl) ?_
           rintro e w7 ⟨⟨ow,jN,rfl,jO,iX⟩,bO⟩
           have bE:=Ext.below bS bO
           refine ⟨_,rfl,bE,?_⟩
           have gI:Sz (a/((2:Int)^k)) 100:=Sz.div hl
           have gJ:Sz (a%((2:Int)^k)) 40:=Sz.mod lY (aS k)
           refine Pl.af ?_
           refine Pl.aZ [(true,7,127),(true,8,255),(true,9,511),(true,10,1023)] 2047 5 Pl.az (by kernel_rfl) (by kernel_rfl) (by kernel_rfl) ?_
           refine Pl.bN bE rfl rfl rfl rfl rfl ?_
           refine Pl.ak bE rfl rfl rfl rfl rfl rfl ?_
           refine Pl.ak bE rfl rfl rfl rfl rfl rfl ?_
           refine Pl.ak bE rfl rfl rfl rfl rfl rfl ?_
           refine Pl.af ?_
           refine Pl.cB [11,12] 4 (by kernel_rfl) (by kernel_rfl) (by kernel_rfl) (Pl.aj ?_ (Pl.aj ?_ Pl.aJ))
           · refine bP rfl rfl rfl rfl (fun _ k=>Ext.below bE k) ?_
             intro N9 w8 bF ym FN
             have bD:=Ext.below bE bF
             refine Pl.af ?_
             refine Pl.aZ [(false,12,4095)] 8191 3 Pl.az (by kernel_rfl) (by kernel_rfl) (by kernel_rfl) ?_
             refine bP rfl rfl rfl rfl (fun _ k=>Ext.below bD k) ?_
             intro rM w9 bW jA sD
             have bK:=Ext.below bD bW
             refine Pl.af ?_
             have sF:=Ib.ext FN bW
             have pR:=Zn.below jO (Ext.below bF bW)
             have jC:=Zn.below iX (Ext.below bF bW)
             exact Pl.aW [(4,.pointer (some ⟨N2,0,none⟩)),(5,.pointer (some ⟨N9,0,none⟩)),(6,.pointer (some ⟨rM,0,none⟩)),(25,ow),(26,jN),(27,(.int .i64 0))] (Pl.aa rfl (Pl.aa rfl (Pl.aa rfl (Pl.aa rfl (Pl.aa rfl (Pl.aa rfl Pl.aA)))))) (hK _ _ ⟨N9,rM,ow,jN,rfl,(Ext.below hB3 (Ext.below hB4 (Ext.below dx (Ext.below bU (Ext.below bO (Ext.below bF bW)))))),(Nat.le_trans (Below.size (Ext.below hB3 (Ext.below hB4 (Ext.below dx (Ext.below bU bO))))) ym),sF,(Nat.le_trans (Below.size (Ext.below hB3 (Ext.below hB4 (Ext.below dx (Ext.below bU (Ext.below bO bF)))))) jA),sD,pR,jC,(Nat.ne_of_lt (Nat.lt_of_lt_of_le (FN).1 jA))⟩)
           · refine bP rfl rfl rfl rfl (fun _ k=>Ext.below bE k) ?_
             intro N9 w8 bF ym FN
             have bD:=Ext.below bE bF
             refine Pl.af ?_
             refine Pl.aZ [(false,11,6143)] 8191 3 Pl.az (by kernel_rfl) (by kernel_rfl) (by kernel_rfl) ?_
             refine bP rfl rfl rfl rfl (fun _ k=>Ext.below bD k) ?_
             intro rM w9 bW jA sD
             have bK:=Ext.below bD bW
             refine Pl.af ?_
             have sF:=Ib.ext FN bW
             have pR:=Zn.below jO (Ext.below bF bW)
             have jC:=Zn.below iX (Ext.below bF bW)
             exact Pl.aW [(4,.pointer (some ⟨N2,0,none⟩)),(5,.pointer (some ⟨rM,0,none⟩)),(6,.pointer (some ⟨N9,0,none⟩)),(25,ow),(26,jN),(27,(.int .i64 0))] (Pl.aa rfl (Pl.aa rfl (Pl.aa rfl (Pl.aa rfl (Pl.aa rfl (Pl.aa rfl Pl.aA)))))) (hK _ _ ⟨rM,N9,ow,jN,rfl,(Ext.below hB3 (Ext.below hB4 (Ext.below dx (Ext.below bU (Ext.below bO (Ext.below bF bW)))))),(Nat.le_trans (Below.size (Ext.below hB3 (Ext.below hB4 (Ext.below dx (Ext.below bU (Ext.below bO bF)))))) jA),sD,(Nat.le_trans (Below.size (Ext.below hB3 (Ext.below hB4 (Ext.below dx (Ext.below bU bO))))) ym),sF,pR,jC,(Nat.ne_of_gt (Nat.lt_of_lt_of_le (FN).1 jA))⟩)
         · refine bP rfl rfl rfl rfl (fun _ k=>Ext.below bS k) ?_
           intro N6 w7 bO iL qY
           have bE:=Ext.below bS bO
           refine Pl.af ?_
           refine Pl.cB [6,12] 8 (by kernel_rfl) (by kernel_rfl) (by kernel_rfl) (Pl.aj ?_ (Pl.aj ?_ Pl.aJ))
           · have iP:=Zn.below ha (Ext.below hB1 (Ext.below hB2 (Ext.below hB3 (Ext.below hB4 (Ext.below dx (Ext.below bU bO))))))
             have gz:=Zn.below jo bO
             refine Pl.ah rfl rfl rfl rfl rfl gy ?_
             refine Calls.mono (bZ _ _ _ a ((2:Int)^k) iP gz (Sz.le hl (by decide)) (Sz.le lY (by decide)) (aS k) (shl a (-((k:Nat):Int))) _ (bX a k).symm rfl) ?_
             rintro e w8 ⟨⟨fK,bG,rfl,iQ,dH⟩,bF⟩
             have bD:=Ext.below bE bF
             refine ⟨_,rfl,bD,?_⟩
             have kP:Sz (a/((2:Int)^k)) 100:=Sz.div hl
             have gB:Sz (a%((2:Int)^k)) 40:=Sz.mod lY (aS k)
             refine Pl.af ?_
             refine Pl.aZ [(true,7,2175),(true,8,2303),(true,9,2559),(true,10,3071),(false,12,4095)] 8191 3 Pl.az (by kernel_rfl) (by kernel_rfl) (by kernel_rfl) ?_
             refine Pl.bN bD rfl rfl rfl rfl rfl ?_
             refine Pl.ak bD rfl rfl rfl rfl rfl rfl ?_
             refine Pl.ak bD rfl rfl rfl rfl rfl rfl ?_
             refine Pl.ak bD rfl rfl rfl rfl rfl rfl ?_
             refine bP rfl rfl rfl rfl (fun _ k=>Ext.below bD k) ?_
             intro mo w9 bW gp nH
             have bK:=Ext.below bD bW
             refine Pl.af ?_
             have fM:=Ib.ext qY (Ext.below bF bW)
             have eF:=Zn.below iQ bW
             have eZ:=Zn.below dH bW
             exact Pl.aW [(4,.pointer (some ⟨N2,0,none⟩)),(5,.pointer (some ⟨N6,0,none⟩)),(6,.pointer (some ⟨mo,0,none⟩)),(25,fK),(26,bG),(27,(.int .i64 0))] (Pl.aa rfl (Pl.aa rfl (Pl.aa rfl (Pl.aa rfl (Pl.aa rfl (Pl.aa rfl Pl.aA)))))) (hK _ _ ⟨N6,mo,fK,bG,rfl,(Ext.below hB3 (Ext.below hB4 (Ext.below dx (Ext.below bU (Ext.below bO (Ext.below bF bW)))))),(Nat.le_trans (Below.size (Ext.below hB3 (Ext.below hB4 (Ext.below dx bU)))) iL),fM,(Nat.le_trans (Below.size (Ext.below hB3 (Ext.below hB4 (Ext.below dx (Ext.below bU (Ext.below bO bF)))))) gp),nH,eF,eZ,(Nat.ne_of_lt (Nat.lt_of_lt_of_le (Ib.ext qY bF).1 gp))⟩)
           · refine bP rfl rfl rfl rfl (fun _ k=>Ext.below bE k) ?_
             intro N7 w8 bF jL wL
             have bD:=Ext.below bE bF
             refine Pl.af ?_
             refine Pl.aZ [(false,6,6207),(true,7,6271),(true,8,6399),(true,9,6655),(true,10,7167)] 8191 3 Pl.az (by kernel_rfl) (by kernel_rfl) (by kernel_rfl) ?_
             have dI:=Zn.below ha (Ext.below hB1 (Ext.below hB2 (Ext.below hB3 (Ext.below hB4 (Ext.below dx (Ext.below bU (Ext.below bO bF)))))))
             have pU:=Zn.below jo (Ext.below bO bF)
             refine Pl.ah rfl rfl rfl rfl rfl gy ?_
             refine Calls.mono (bZ _ _ _ a ((2:Int)^k) dI pU (Sz.le hl (by decide)) (Sz.le lY (by decide)) (aS k) (shl a (-((k:Nat):Int))) _ (bX a k).symm rfl) ?_
             rintro e w9 ⟨⟨bG,bV,rfl,dH,dM⟩,bW⟩
             have bK:=Ext.below bD bW
             refine ⟨_,rfl,bK,?_⟩
             have gB:Sz (a/((2:Int)^k)) 100:=Sz.div hl
             have gQ:Sz (a%((2:Int)^k)) 40:=Sz.mod lY (aS k)
             refine Pl.bN bK rfl rfl rfl rfl rfl ?_
             refine Pl.ak bK rfl rfl rfl rfl rfl rfl ?_
             refine Pl.ak bK rfl rfl rfl rfl rfl rfl ?_
             refine Pl.ak bK rfl rfl rfl rfl rfl rfl ?_
             refine Pl.af ?_
             have fM:=Ib.ext qY (Ext.below bF bW)
             have iR:=Ib.ext wL bW
             exact Pl.aW [(4,.pointer (some ⟨N2,0,none⟩)),(5,.pointer (some ⟨N6,0,none⟩)),(6,.pointer (some ⟨N7,0,none⟩)),(25,bG),(26,bV),(27,(.int .i64 0))] (Pl.aa rfl (Pl.aa rfl (Pl.aa rfl (Pl.aa rfl (Pl.aa rfl (Pl.aa rfl Pl.aA)))))) (hK _ _ ⟨N6,N7,bG,bV,rfl,(Ext.below hB3 (Ext.below hB4 (Ext.below dx (Ext.below bU (Ext.below bO (Ext.below bF bW)))))),(Nat.le_trans (Below.size (Ext.below hB3 (Ext.below hB4 (Ext.below dx bU)))) iL),fM,(Nat.le_trans (Below.size (Ext.below hB3 (Ext.below hB4 (Ext.below dx (Ext.below bU bO))))) jL),iR,dH,dM,(Nat.ne_of_lt (Nat.lt_of_lt_of_le (qY).1 jL))⟩)
         · refine bP rfl rfl rfl rfl (fun _ k=>Ext.below bS k) ?_
           intro N6 w7 bO iL qY
           have bE:=Ext.below bS bO
           refine Pl.af ?_
           refine Pl.cB [6,11] 8 (by kernel_rfl) (by kernel_rfl) (by kernel_rfl) (Pl.aj ?_ (Pl.aj ?_ Pl.aJ))
           · have iP:=Zn.below ha (Ext.below hB1 (Ext.below hB2 (Ext.below hB3 (Ext.below hB4 (Ext.below dx (Ext.below bU bO))))))
             have gz:=Zn.below jo bO
             refine Pl.ah rfl rfl rfl rfl rfl gy ?_
             refine Calls.mono (bZ _ _ _ a ((2:Int)^k) iP gz (Sz.le hl (by decide)) (Sz.le lY (by decide)) (aS k) (shl a (-((k:Nat):Int))) _ (bX a k).symm rfl) ?_
             rintro e w8 ⟨⟨fK,bG,rfl,iQ,dH⟩,bF⟩
             have bD:=Ext.below bE bF
             refine ⟨_,rfl,bD,?_⟩
             have kP:Sz (a/((2:Int)^k)) 100:=Sz.div hl
             have gB:Sz (a%((2:Int)^k)) 40:=Sz.mod lY (aS k)
             refine Pl.af ?_
             refine Pl.aZ [(true,7,4223),(true,8,4351),(true,9,4607),(true,10,5119),(false,11,6143)] 8191 3 Pl.az (by kernel_rfl) (by kernel_rfl) (by kernel_rfl) ?_
             refine Pl.bN bD rfl rfl rfl rfl rfl ?_
             refine Pl.ak bD rfl rfl rfl rfl rfl rfl ?_
             refine Pl.ak bD rfl rfl rfl rfl rfl rfl ?_
             refine Pl.ak bD rfl rfl rfl rfl rfl rfl ?_
             refine bP rfl rfl rfl rfl (fun _ k=>Ext.below bD k) ?_
             intro mo w9 bW gp nH
             have bK:=Ext.below bD bW
             refine Pl.af ?_
             have fM:=Ib.ext qY (Ext.below bF bW)
             have eF:=Zn.below iQ bW
             have eZ:=Zn.below dH bW
             exact Pl.aW [(4,.pointer (some ⟨N2,0,none⟩)),(5,.pointer (some ⟨mo,0,none⟩)),(6,.pointer (some ⟨N6,0,none⟩)),(25,fK),(26,bG),(27,(.int .i64 0))] (Pl.aa rfl (Pl.aa rfl (Pl.aa rfl (Pl.aa rfl (Pl.aa rfl (Pl.aa rfl Pl.aA)))))) (hK _ _ ⟨mo,N6,fK,bG,rfl,(Ext.below hB3 (Ext.below hB4 (Ext.below dx (Ext.below bU (Ext.below bO (Ext.below bF bW)))))),(Nat.le_trans (Below.size (Ext.below hB3 (Ext.below hB4 (Ext.below dx (Ext.below bU (Ext.below bO bF)))))) gp),nH,(Nat.le_trans (Below.size (Ext.below hB3 (Ext.below hB4 (Ext.below dx bU)))) iL),fM,eF,eZ,(Nat.ne_of_gt (Nat.lt_of_lt_of_le (Ib.ext qY bF).1 gp))⟩)
           · refine bP rfl rfl rfl rfl (fun _ k=>Ext.below bE k) ?_
             intro N7 w8 bF jL wL
             have bD:=Ext.below bE bF
             refine Pl.af ?_
             refine Pl.aZ [(false,6,6207),(true,7,6271),(true,8,6399),(true,9,6655),(true,10,7167)] 8191 3 Pl.az (by kernel_rfl) (by kernel_rfl) (by kernel_rfl) ?_
             have dI:=Zn.below ha (Ext.below hB1 (Ext.below hB2 (Ext.below hB3 (Ext.below hB4 (Ext.below dx (Ext.below bU (Ext.below bO bF)))))))
             have pU:=Zn.below jo (Ext.below bO bF)
             refine Pl.ah rfl rfl rfl rfl rfl gy ?_
             refine Calls.mono (bZ _ _ _ a ((2:Int)^k) dI pU (Sz.le hl (by decide)) (Sz.le lY (by decide)) (aS k) (shl a (-((k:Nat):Int))) _ (bX a k).symm rfl) ?_
             rintro e w9 ⟨⟨bG,bV,rfl,dH,dM⟩,bW⟩
             have bK:=Ext.below bD bW
             refine ⟨_,rfl,bK,?_⟩
             have gB:Sz (a/((2:Int)^k)) 100:=Sz.div hl
             have gQ:Sz (a%((2:Int)^k)) 40:=Sz.mod lY (aS k)
             refine Pl.bN bK rfl rfl rfl rfl rfl ?_
             refine Pl.ak bK rfl rfl rfl rfl rfl rfl ?_
             refine Pl.ak bK rfl rfl rfl rfl rfl rfl ?_
             refine Pl.ak bK rfl rfl rfl rfl rfl rfl ?_
             refine Pl.af ?_
             have iR:=Ib.ext wL bW
             have fM:=Ib.ext qY (Ext.below bF bW)
             exact Pl.aW [(4,.pointer (some ⟨N2,0,none⟩)),(5,.pointer (some ⟨N7,0,none⟩)),(6,.pointer (some ⟨N6,0,none⟩)),(25,bG),(26,bV),(27,(.int .i64 0))] (Pl.aa rfl (Pl.aa rfl (Pl.aa rfl (Pl.aa rfl (Pl.aa rfl (Pl.aa rfl Pl.aA)))))) (hK _ _ ⟨N7,N6,bG,bV,rfl,(Ext.below hB3 (Ext.below hB4 (Ext.below dx (Ext.below bU (Ext.below bO (Ext.below bF bW)))))),(Nat.le_trans (Below.size (Ext.below hB3 (Ext.below hB4 (Ext.below dx (Ext.below bU bO))))) jL),iR,(Nat.le_trans (Below.size (Ext.below hB3 (Ext.below hB4 (Ext.below dx bU)))) iL),fM,dH,dM,(Nat.ne_of_gt (Nat.lt_of_lt_of_le (qY).1 jL))⟩)
       · refine bP rfl rfl rfl rfl (fun _ k=>Ext.below hS5 k) ?_
         intro N5 w6 bU iy oz
         have bS:=Ext.below hS5 bU
         refine Pl.af ?_
         refine Pl.cB [5,12] 9 (by kernel_rfl) (by kernel_rfl) (by kernel_rfl) (Pl.aj ?_ (Pl.aj ?_ Pl.aJ))
         · have pV:=Un.below wK bU
           refine Pl.ah rfl rfl rfl rfl rfl jm ?_
           refine Calls.mono (dL _ false _ (limbs (1*2^k)) pV (by rw [Nat.one_mul];exact Nat.le_trans (dQ (M:=40) (by omega)) (by decide)) _ (aI _) ((2:Int)^k) (eD k)) ?_
           rintro e w7 ⟨ow,rfl,jO,bO⟩
           have bE:=Ext.below bS bO
           refine ⟨_,rfl,bE,?_⟩
           have gI:Sz ((2:Int)^k) 40:=Sz.two (by omega)
           refine Pl.af ?_
           refine Pl.cB [6,12] 8 (by kernel_rfl) (by kernel_rfl) (by kernel_rfl) (Pl.aj ?_ (Pl.aj ?_ Pl.aJ))
           · have iP:=Zn.below ha (Ext.below hB1 (Ext.below hB2 (Ext.below hB3 (Ext.below hB4 (Ext.below dx (Ext.below bU bO))))))
             refine Pl.ah rfl rfl rfl rfl rfl gy ?_
             refine Calls.mono (bZ _ _ _ a ((2:Int)^k) iP jO (Sz.le hl (by decide)) (Sz.le gI (by decide)) (aS k) (shl a (-((k:Nat):Int))) _ (bX a k).symm rfl) ?_
             rintro e w8 ⟨⟨fK,bG,rfl,iQ,dH⟩,bF⟩
             have bD:=Ext.below bE bF
             refine ⟨_,rfl,bD,?_⟩
             have kP:Sz (a/((2:Int)^k)) 100:=Sz.div hl
             have gB:Sz (a%((2:Int)^k)) 40:=Sz.mod gI (aS k)
             refine Pl.af ?_
             refine Pl.aZ [(true,7,2175),(true,8,2303),(true,9,2559),(true,10,3071),(false,12,4095)] 8191 3 Pl.az (by kernel_rfl) (by kernel_rfl) (by kernel_rfl) ?_
             refine Pl.bN bD rfl rfl rfl rfl rfl ?_
             refine Pl.ak bD rfl rfl rfl rfl rfl rfl ?_
             refine Pl.ak bD rfl rfl rfl rfl rfl rfl ?_
             refine Pl.ak bD rfl rfl rfl rfl rfl rfl ?_
             refine bP rfl rfl rfl rfl (fun _ k=>Ext.below bD k) ?_
             intro mo w9 bW gp nH
             have bK:=Ext.below bD bW
             refine Pl.af ?_
             have eG:=Ib.ext oz (Ext.below bO (Ext.below bF bW))
             have eF:=Zn.below iQ bW
             have eZ:=Zn.below dH bW
             exact Pl.aW [(4,.pointer (some ⟨N2,0,none⟩)),(5,.pointer (some ⟨N5,0,none⟩)),(6,.pointer (some ⟨mo,0,none⟩)),(25,fK),(26,bG),(27,(.int .i64 0))] (Pl.aa rfl (Pl.aa rfl (Pl.aa rfl (Pl.aa rfl (Pl.aa rfl (Pl.aa rfl Pl.aA)))))) (hK _ _ ⟨N5,mo,fK,bG,rfl,(Ext.below hB3 (Ext.below hB4 (Ext.below dx (Ext.below bU (Ext.below bO (Ext.below bF bW)))))),(Nat.le_trans (Below.size (Ext.below hB3 (Ext.below hB4 dx))) iy),eG,(Nat.le_trans (Below.size (Ext.below hB3 (Ext.below hB4 (Ext.below dx (Ext.below bU (Ext.below bO bF)))))) gp),nH,eF,eZ,(Nat.ne_of_lt (Nat.lt_of_lt_of_le (Ib.ext oz (Ext.below bO bF)).1 gp))⟩)
           · refine bP rfl rfl rfl rfl (fun _ k=>Ext.below bE k) ?_
             intro N8 w8 bF mG BL
             have bD:=Ext.below bE bF
             refine Pl.af ?_
             refine Pl.aZ [(false,6,6207),(true,7,6271),(true,8,6399),(true,9,6655),(true,10,7167)] 8191 3 Pl.az (by kernel_rfl) (by kernel_rfl) (by kernel_rfl) ?_
             have dI:=Zn.below ha (Ext.below hB1 (Ext.below hB2 (Ext.below hB3 (Ext.below hB4 (Ext.below dx (Ext.below bU (Ext.below bO bF)))))))
             have jD:=Zn.below jO bF
             refine Pl.ah rfl rfl rfl rfl rfl gy ?_
             refine Calls.mono (bZ _ _ _ a ((2:Int)^k) dI jD (Sz.le hl (by decide)) (Sz.le gI (by decide)) (aS k) (shl a (-((k:Nat):Int))) _ (bX a k).symm rfl) ?_
             rintro e w9 ⟨⟨bV,gT,rfl,dM,jS⟩,bW⟩
             have bK:=Ext.below bD bW
             refine ⟨_,rfl,bK,?_⟩
             have gQ:Sz (a/((2:Int)^k)) 100:=Sz.div hl
             have qZ:Sz (a%((2:Int)^k)) 40:=Sz.mod gI (aS k)
             refine Pl.bN bK rfl rfl rfl rfl rfl ?_
             refine Pl.ak bK rfl rfl rfl rfl rfl rfl ?_
             refine Pl.ak bK rfl rfl rfl rfl rfl rfl ?_
             refine Pl.ak bK rfl rfl rfl rfl rfl rfl ?_
             refine Pl.af ?_
             have eG:=Ib.ext oz (Ext.below bO (Ext.below bF bW))
             have kQ:=Ib.ext BL bW
             exact Pl.aW [(4,.pointer (some ⟨N2,0,none⟩)),(5,.pointer (some ⟨N5,0,none⟩)),(6,.pointer (some ⟨N8,0,none⟩)),(25,bV),(26,gT),(27,(.int .i64 0))] (Pl.aa rfl (Pl.aa rfl (Pl.aa rfl (Pl.aa rfl (Pl.aa rfl (Pl.aa rfl Pl.aA)))))) (hK _ _ ⟨N5,N8,bV,gT,rfl,(Ext.below hB3 (Ext.below hB4 (Ext.below dx (Ext.below bU (Ext.below bO (Ext.below bF bW)))))),(Nat.le_trans (Below.size (Ext.below hB3 (Ext.below hB4 dx))) iy),eG,(Nat.le_trans (Below.size (Ext.below hB3 (Ext.below hB4 (Ext.below dx (Ext.below bU bO))))) mG),kQ,dM,jS,(Nat.ne_of_lt (Nat.lt_of_lt_of_le (Ib.ext oz bO).1 mG))⟩)
         · refine bP rfl rfl rfl rfl (fun _ k=>Ext.below bS k) ?_
           intro N6 w7 bO iL qY
           have bE:=Ext.below bS bO
           refine Pl.af ?_
           refine Pl.aZ [(false,5,6175),(false,6,6207),(true,7,6271),(true,8,6399),(true,9,6655),(true,10,7167)] 8191 3 Pl.az (by kernel_rfl) (by kernel_rfl) (by kernel_rfl) ?_
           have pW:=Un.below wK (Ext.below bU bO)
           refine Pl.ah rfl rfl rfl rfl rfl jm ?_
           refine Calls.mono (dL _ false _ (limbs (1*2^k)) pW (by rw [Nat.one_mul];exact Nat.le_trans (dQ (M:=40) (by omega)) (by decide)) _ (aI _) ((2:Int)^k) (eD k)) ?_
           rintro e w8 ⟨jN,rfl,iX,bF⟩
           have bD:=Ext.below bE bF
           refine ⟨_,rfl,bD,?_⟩
           have gJ:Sz ((2:Int)^k) 40:=Sz.two (by omega)
           have dI:=Zn.below ha (Ext.below hB1 (Ext.below hB2 (Ext.below hB3 (Ext.below hB4 (Ext.below dx (Ext.below bU (Ext.below bO bF)))))))
           refine Pl.ah rfl rfl rfl rfl rfl gy ?_
           refine Calls.mono (bZ _ _ _ a ((2:Int)^k) dI iX (Sz.le hl (by decide)) (Sz.le gJ (by decide)) (aS k) (shl a (-((k:Nat):Int))) _ (bX a k).symm rfl) ?_
           rintro e w9 ⟨⟨bG,bV,rfl,dH,dM⟩,bW⟩
           have bK:=Ext.below bD bW
           refine ⟨_,rfl,bK,?_⟩
           have gB:Sz (a/((2:Int)^k)) 100:=Sz.div hl
           have gQ:Sz (a%((2:Int)^k)) 40:=Sz.mod gJ (aS k)
           refine Pl.bN bK rfl rfl rfl rfl rfl ?_
           refine Pl.ak bK rfl rfl rfl rfl rfl rfl ?_
           refine Pl.ak bK rfl rfl rfl rfl rfl rfl ?_
           refine Pl.ak bK rfl rfl rfl rfl rfl rfl ?_
           refine Pl.af ?_
           have eG:=Ib.ext oz (Ext.below bO (Ext.below bF bW))
           have fM:=Ib.ext qY (Ext.below bF bW)
           exact Pl.aW [(4,.pointer (some ⟨N2,0,none⟩)),(5,.pointer (some ⟨N5,0,none⟩)),(6,.pointer (some ⟨N6,0,none⟩)),(25,bG),(26,bV),(27,(.int .i64 0))] (Pl.aa rfl (Pl.aa rfl (Pl.aa rfl (Pl.aa rfl (Pl.aa rfl (Pl.aa rfl Pl.aA)))))) (hK _ _ ⟨N5,N6,bG,bV,rfl,(Ext.below hB3 (Ext.below hB4 (Ext.below dx (Ext.below bU (Ext.below bO (Ext.below bF bW)))))),(Nat.le_trans (Below.size (Ext.below hB3 (Ext.below hB4 dx))) iy),eG,(Nat.le_trans (Below.size (Ext.below hB3 (Ext.below hB4 (Ext.below dx bU)))) iL),fM,dH,dM,(Nat.ne_of_lt (Nat.lt_of_lt_of_le (oz).1 iL))⟩)
       · refine bP rfl rfl rfl rfl (fun _ k=>Ext.below hS5 k) ?_
         intro N5 w6 bU iy oz
         have bS:=Ext.below hS5 bU
         refine Pl.af ?_
         refine Pl.cB [5,11] 9 (by kernel_rfl) (by kernel_rfl) (by kernel_rfl) (Pl.aj ?_ (Pl.aj ?_ Pl.aJ))
         · have pV:=Un.below wK bU
           refine Pl.ah rfl rfl rfl rfl rfl jm ?_
           refine Calls.mono (dL _ false _ (limbs (1*2^k)) pV (by rw [Nat.one_mul];exact Nat.le_trans (dQ (M:=40) (by omega)) (by decide)) _ (aI _) ((2:Int)^k) (eD k)) ?_
           rintro e w7 ⟨ow,rfl,jO,bO⟩
           have bE:=Ext.below bS bO
           refine ⟨_,rfl,bE,?_⟩
           have gI:Sz ((2:Int)^k) 40:=Sz.two (by omega)
           refine Pl.af ?_
           refine Pl.cB [6,11] 8 (by kernel_rfl) (by kernel_rfl) (by kernel_rfl) (Pl.aj ?_ (Pl.aj ?_ Pl.aJ))
           · have iP:=Zn.below ha (Ext.below hB1 (Ext.below hB2 (Ext.below hB3 (Ext.below hB4 (Ext.below dx (Ext.below bU bO))))))
             refine Pl.ah rfl rfl rfl rfl rfl gy ?_
             refine Calls.mono (bZ _ _ _ a ((2:Int)^k) iP jO (Sz.le hl (by decide)) (Sz.le gI (by decide)) (aS k) (shl a (-((k:Nat):Int))) _ (bX a k).symm rfl) ?_
             rintro e w8 ⟨⟨fK,bG,rfl,iQ,dH⟩,bF⟩
             have bD:=Ext.below bE bF
             refine ⟨_,rfl,bD,?_⟩
             have kP:Sz (a/((2:Int)^k)) 100:=Sz.div hl
             have gB:Sz (a%((2:Int)^k)) 40:=Sz.mod gI (aS k)
             refine Pl.af ?_
             refine Pl.aZ [(true,7,4223),(true,8,4351),(true,9,4607),(true,10,5119),(false,11,6143)] 8191 3 Pl.az (by kernel_rfl) (by kernel_rfl) (by kernel_rfl) ?_
             refine Pl.bN bD rfl rfl rfl rfl rfl ?_
             refine Pl.ak bD rfl rfl rfl rfl rfl rfl ?_
             refine Pl.ak bD rfl rfl rfl rfl rfl rfl ?_
             refine Pl.ak bD rfl rfl rfl rfl rfl rfl ?_
             refine bP rfl rfl rfl rfl (fun _ k=>Ext.below bD k) ?_
             intro mo w9 bW gp nH
             have bK:=Ext.below bD bW
             refine Pl.af ?_
             have eG:=Ib.ext oz (Ext.below bO (Ext.below bF bW))
             have eF:=Zn.below iQ bW
             have eZ:=Zn.below dH bW
             exact Pl.aW [(4,.pointer (some ⟨N2,0,none⟩)),(5,.pointer (some ⟨mo,0,none⟩)),(6,.pointer (some ⟨N5,0,none⟩)),(25,fK),(26,bG),(27,(.int .i64 0))] (Pl.aa rfl (Pl.aa rfl (Pl.aa rfl (Pl.aa rfl (Pl.aa rfl (Pl.aa rfl Pl.aA)))))) (hK _ _ ⟨mo,N5,fK,bG,rfl,(Ext.below hB3 (Ext.below hB4 (Ext.below dx (Ext.below bU (Ext.below bO (Ext.below bF bW)))))),(Nat.le_trans (Below.size (Ext.below hB3 (Ext.below hB4 (Ext.below dx (Ext.below bU (Ext.below bO bF)))))) gp),nH,(Nat.le_trans (Below.size (Ext.below hB3 (Ext.below hB4 dx))) iy),eG,eF,eZ,(Nat.ne_of_gt (Nat.lt_of_lt_of_le (Ib.ext oz (Ext.below bO bF)).1 gp))⟩)
           · refine bP rfl rfl rfl rfl (fun _ k=>Ext.below bE k) ?_
             intro N8 w8 bF mG BL
             have bD:=Ext.below bE bF
             refine Pl.af ?_
             refine Pl.aZ [(false,6,6207),(true,7,6271),(true,8,6399),(true,9,6655),(true,10,7167)] 8191 3 Pl.az (by kernel_rfl) (by kernel_rfl) (by kernel_rfl) ?_
             have dI:=Zn.below ha (Ext.below hB1 (Ext.below hB2 (Ext.below hB3 (Ext.below hB4 (Ext.below dx (Ext.below bU (Ext.below bO bF)))))))
             have jD:=Zn.below jO bF
             refine Pl.ah rfl rfl rfl rfl rfl gy ?_
             refine Calls.mono (bZ _ _ _ a ((2:Int)^k) dI jD (Sz.le hl (by decide)) (Sz.le gI (by decide)) (aS k) (shl a (-((k:Nat):Int))) _ (bX a k).symm rfl) ?_
             rintro e w9 ⟨⟨bV,gT,rfl,dM,jS⟩,bW⟩
             have bK:=Ext.below bD bW
             refine ⟨_,rfl,bK,?_⟩
             have gQ:Sz (a/((2:Int)^k)) 100:=Sz.div hl
             have qZ:Sz (a%((2:Int)^k)) 40:=Sz.mod gI (aS k)
             refine Pl.bN bK rfl rfl rfl rfl rfl ?_
             refine Pl.ak bK rfl rfl rfl rfl rfl rfl ?_
             refine Pl.ak bK rfl rfl rfl rfl rfl rfl ?_
             refine Pl.ak bK rfl rfl rfl rfl rfl rfl ?_
             refine Pl.af ?_
             have kQ:=Ib.ext BL bW
             have eG:=Ib.ext oz (Ext.below bO (Ext.below bF bW))
             exact Pl.aW [(4,.pointer (some ⟨N2,0,none⟩)),(5,.pointer (some ⟨N8,0,none⟩)),(6,.pointer (some ⟨N5,0,none⟩)),(25,bV),(26,gT),(27,(.int .i64 0))] (Pl.aa rfl (Pl.aa rfl (Pl.aa rfl (Pl.aa rfl (Pl.aa rfl (Pl.aa rfl Pl.aA)))))) (hK _ _ ⟨N8,N5,bV,gT,rfl,(Ext.below hB3 (Ext.below hB4 (Ext.below dx (Ext.below bU (Ext.below bO (Ext.below bF bW)))))),(Nat.le_trans (Below.size (Ext.below hB3 (Ext.below hB4 (Ext.below dx (Ext.below bU bO))))) mG),kQ,(Nat.le_trans (Below.size (Ext.below hB3 (Ext.below hB4 dx))) iy),eG,dM,jS,(Nat.ne_of_gt (Nat.lt_of_lt_of_le (Ib.ext oz bO).1 mG))⟩)
         · refine bP rfl rfl rfl rfl (fun _ k=>Ext.below bS k) ?_
           intro N6 w7 bO iL qY
           have bE:=Ext.below bS bO
           refine Pl.af ?_
           refine Pl.aZ [(false,5,6175),(false,6,6207),(true,7,6271),(true,8,6399),(true,9,6655),(true,10,7167)] 8191 3 Pl.az (by kernel_rfl) (by kernel_rfl) (by kernel_rfl) ?_
           have pW:=Un.below wK (Ext.below bU bO)
           refine Pl.ah rfl rfl rfl rfl rfl jm ?_
           refine Calls.mono (dL _ false _ (limbs (1*2^k)) pW (by rw [Nat.one_mul];exact Nat.le_trans (dQ (M:=40) (by omega)) (by decide)) _ (aI _) ((2:Int)^k) (eD k)) ?_
           rintro e w8 ⟨jN,rfl,iX,bF⟩
           have bD:=Ext.below bE bF
           refine ⟨_,rfl,bD,?_⟩
           have gJ:Sz ((2:Int)^k) 40:=Sz.two (by omega)
           have dI:=Zn.below ha (Ext.below hB1 (Ext.below hB2 (Ext.below hB3 (Ext.below hB4 (Ext.below dx (Ext.below bU (Ext.below bO bF)))))))
           refine Pl.ah rfl rfl rfl rfl rfl gy ?_
           refine Calls.mono (bZ _ _ _ a ((2:Int)^k) dI iX (Sz.le hl (by decide)) (Sz.le gJ (by decide)) (aS k) (shl a (-((k:Nat):Int))) _ (bX a k).symm rfl) ?_
           rintro e w9 ⟨⟨bG,bV,rfl,dH,dM⟩,bW⟩
           have bK:=Ext.below bD bW
           refine ⟨_,rfl,bK,?_⟩
           have gB:Sz (a/((2:Int)^k)) 100:=Sz.div hl
           have gQ:Sz (a%((2:Int)^k)) 40:=Sz.mod gJ (aS k)
           refine Pl.bN bK rfl rfl rfl rfl rfl ?_
           refine Pl.ak bK rfl rfl rfl rfl rfl rfl ?_
           refine Pl.ak bK rfl rfl rfl rfl rfl rfl ?_
           refine Pl.ak bK rfl rfl rfl rfl rfl rfl ?_
           refine Pl.af ?_
           have fM:=Ib.ext qY (Ext.below bF bW)
           have eG:=Ib.ext oz (Ext.below bO (Ext.below bF bW))
           exact Pl.aW [(4,.pointer (some ⟨N2,0,none⟩)),(5,.pointer (some ⟨N6,0,none⟩)),(6,.pointer (some ⟨N5,0,none⟩)),(25,bG),(26,bV),(27,(.int .i64 0))] (Pl.aa rfl (Pl.aa rfl (Pl.aa rfl (Pl.aa rfl (Pl.aa rfl (Pl.aa rfl Pl.aA)))))) (hK _ _ ⟨N6,N5,bG,bV,rfl,(Ext.below hB3 (Ext.below hB4 (Ext.below dx (Ext.below bU (Ext.below bO (Ext.below bF bW)))))),(Nat.le_trans (Below.size (Ext.below hB3 (Ext.below hB4 (Ext.below dx bU)))) iL),fM,(Nat.le_trans (Below.size (Ext.below hB3 (Ext.below hB4 dx))) iy),eG,dH,dM,(Nat.ne_of_gt (Nat.lt_of_lt_of_le (oz).1 iL))⟩)
     · refine bP rfl rfl rfl rfl (fun _ k=>Ext.below dP k) ?_
       intro N4 w5 dx fE oC
       have hS5:=Ext.below dP dx
       refine Pl.af ?_
       refine Pl.cB [4,12] 10 (by kernel_rfl) (by kernel_rfl) (by kernel_rfl) (Pl.aj ?_ (Pl.aj ?_ Pl.aJ))
       · have pX:=U.below wJ dx
         refine Pl.ah rfl rfl rfl rfl rfl mX ?_
         refine Calls.mono (iA _ _ 1 k (U.one pX) (by omega) (Nat.le_trans (Sz.lit (z:=1) (K:=1) (by decide) (by decide)) (by decide)) _ rfl) ?_
         rintro e w6 ⟨wH,rfl,jo,bU⟩
         have bS:=Ext.below hS5 bU
         refine ⟨_,rfl,bS,?_⟩
         refine Pl.af ?_
         refine Pl.cB [5,12] 9 (by kernel_rfl) (by kernel_rfl) (by kernel_rfl) (Pl.aj ?_ (Pl.aj ?_ Pl.aJ))
         · refine Pl.ah rfl rfl rfl rfl rfl jm ?_
           refine Calls.mono (dL _ false _ (limbs (1*2^k)) jo (by rw [Nat.one_mul];exact Nat.le_trans (dQ (M:=40) (by omega)) (by decide)) _ (aI _) ((2:Int)^k) (eD k)) ?_
           rintro e w7 ⟨ow,rfl,jO,bO⟩
           have bE:=Ext.below bS bO
           refine ⟨_,rfl,bE,?_⟩
           have gI:Sz ((2:Int)^k) 40:=Sz.two (by omega)
           refine Pl.af ?_
           refine Pl.cB [6,12] 8 (by kernel_rfl) (by kernel_rfl) (by kernel_rfl) (Pl.aj ?_ (Pl.aj ?_ Pl.aJ))
           · have iP:=Zn.below ha (Ext.below hB1 (Ext.below hB2 (Ext.below hB3 (Ext.below hB4 (Ext.below dx (Ext.below bU bO))))))
             refine Pl.ah rfl rfl rfl rfl rfl gy ?_
             refine Calls.mono (bZ _ _ _ a ((2:Int)^k) iP jO (Sz.le hl (by decide)) (Sz.le gI (by decide)) (aS k) (shl a (-((k:Nat):Int))) _ (bX a k).symm rfl) ?_
             rintro e w8 ⟨⟨fK,bG,rfl,iQ,dH⟩,bF⟩
             have bD:=Ext.below bE bF
             refine ⟨_,rfl,bD,?_⟩
             have kP:Sz (a/((2:Int)^k)) 100:=Sz.div hl
             have gB:Sz (a%((2:Int)^k)) 40:=Sz.mod gI (aS k)
             refine Pl.af ?_
             refine Pl.aZ [(true,7,2175),(true,8,2303),(true,9,2559),(true,10,3071),(false,12,4095)] 8191 3 Pl.az (by kernel_rfl) (by kernel_rfl) (by kernel_rfl) ?_
             refine Pl.bN bD rfl rfl rfl rfl rfl ?_
             refine Pl.ak bD rfl rfl rfl rfl rfl rfl ?_
             refine Pl.ak bD rfl rfl rfl rfl rfl rfl ?_
             refine Pl.ak bD rfl rfl rfl rfl rfl rfl ?_
             refine bP rfl rfl rfl rfl (fun _ k=>Ext.below bD k) ?_
             intro mo w9 bW gp nH
             have bK:=Ext.below bD bW
             refine Pl.af ?_
             have eH:=Ib.ext oC (Ext.below bU (Ext.below bO (Ext.below bF bW)))
             have eF:=Zn.below iQ bW
             have eZ:=Zn.below dH bW
             exact Pl.aW [(4,.pointer (some ⟨N2,0,none⟩)),(5,.pointer (some ⟨N4,0,none⟩)),(6,.pointer (some ⟨mo,0,none⟩)),(25,fK),(26,bG),(27,(.int .i64 0))] (Pl.aa rfl (Pl.aa rfl (Pl.aa rfl (Pl.aa rfl (Pl.aa rfl (Pl.aa rfl Pl.aA)))))) (hK _ _ ⟨N4,mo,fK,bG,rfl,(Ext.below hB3 (Ext.below hB4 (Ext.below dx (Ext.below bU (Ext.below bO (Ext.below bF bW)))))),(Nat.le_trans (Below.size (Ext.below hB3 hB4)) fE),eH,(Nat.le_trans (Below.size (Ext.below hB3 (Ext.below hB4 (Ext.below dx (Ext.below bU (Ext.below bO bF)))))) gp),nH,eF,eZ,(Nat.ne_of_lt (Nat.lt_of_lt_of_le (Ib.ext oC (Ext.below bU (Ext.below bO bF))).1 gp))⟩)
           · refine bP rfl rfl rfl rfl (fun _ k=>Ext.below bE k) ?_
             intro N8 w8 bF mG BL
             have bD:=Ext.below bE bF
             refine Pl.af ?_
             refine Pl.aZ [(false,6,6207),(true,7,6271),(true,8,6399),(true,9,6655),(true,10,7167)] 8191 3 Pl.az (by kernel_rfl) (by kernel_rfl) (by kernel_rfl) ?_
             have dI:=Zn.below ha (Ext.below hB1 (Ext.below hB2 (Ext.below hB3 (Ext.below hB4 (Ext.below dx (Ext.below bU (Ext.below bO bF)))))))
             have jD:=Zn.below jO bF
             refine Pl.ah rfl rfl rfl rfl rfl gy ?_
             refine Calls.mono (bZ _ _ _ a ((2:Int)^k) dI jD (Sz.le hl (by decide)) (Sz.le gI (by decide)) (aS k) (shl a (-((k:Nat):Int))) _ (bX a k).symm rfl) ?_
             rintro e w9 ⟨⟨bV,gT,rfl,dM,jS⟩,bW⟩
             have bK:=Ext.below bD bW
             refine ⟨_,rfl,bK,?_⟩
             have gQ:Sz (a/((2:Int)^k)) 100:=Sz.div hl
             have qZ:Sz (a%((2:Int)^k)) 40:=Sz.mod gI (aS k)
             refine Pl.bN bK rfl rfl rfl rfl rfl ?_
             refine Pl.ak bK rfl rfl rfl rfl rfl rfl ?_
             refine Pl.ak bK rfl rfl rfl rfl rfl rfl ?_
             refine Pl.ak bK rfl rfl rfl rfl rfl rfl ?_
             refine Pl.af ?_
             have eH:=Ib.ext oC (Ext.below bU (Ext.below bO (Ext.below bF bW)))
             have kQ:=Ib.ext BL bW
             exact Pl.aW [(4,.pointer (some ⟨N2,0,none⟩)),(5,.pointer (some ⟨N4,0,none⟩)),(6,.pointer (some ⟨N8,0,none⟩)),(25,bV),(26,gT),(27,(.int .i64 0))] (Pl.aa rfl (Pl.aa rfl (Pl.aa rfl (Pl.aa rfl (Pl.aa rfl (Pl.aa rfl Pl.aA)))))) (hK _ _ ⟨N4,N8,bV,gT,rfl,(Ext.below hB3 (Ext.below hB4 (Ext.below dx (Ext.below bU (Ext.below bO (Ext.below bF bW)))))),(Nat.le_trans (Below.size (Ext.below hB3 hB4)) fE),eH,(Nat.le_trans (Below.size (Ext.below hB3 (Ext.below hB4 (Ext.below dx (Ext.below bU bO))))) mG),kQ,dM,jS,(Nat.ne_of_lt (Nat.lt_of_lt_of_le (Ib.ext oC (Ext.below bU bO)).1 mG))⟩)
         · refine bP rfl rfl rfl rfl (fun _ k=>Ext.below bS k) ?_
           intro N7 w7 bO jL wL
           have bE:=Ext.below bS bO
           refine Pl.af ?_
           refine Pl.aZ [(false,5,6175),(false,6,6207),(true,7,6271),(true,8,6399),(true,9,6655),(true,10,7167)] 8191 3 Pl.az (by kernel_rfl) (by kernel_rfl) (by kernel_rfl) ?_
           have gz:=Un.below jo bO
           refine Pl.ah rfl rfl rfl rfl rfl jm ?_
           refine Calls.mono (dL _ false _ (limbs (1*2^k)) gz (by rw [Nat.one_mul];exact Nat.le_trans (dQ (M:=40) (by omega)) (by decide)) _ (aI _) ((2:Int)^k) (eD k)) ?_
           rintro e w8 ⟨fK,rfl,iQ,bF⟩
           have bD:=Ext.below bE bF
           refine ⟨_,rfl,bD,?_⟩
           have kP:Sz ((2:Int)^k) 40:=Sz.two (by omega)
           have dI:=Zn.below ha (Ext.below hB1 (Ext.below hB2 (Ext.below hB3 (Ext.below hB4 (Ext.below dx (Ext.below bU (Ext.below bO bF)))))))
           refine Pl.ah rfl rfl rfl rfl rfl gy ?_
           refine Calls.mono (bZ _ _ _ a ((2:Int)^k) dI iQ (Sz.le hl (by decide)) (Sz.le kP (by decide)) (aS k) (shl a (-((k:Nat):Int))) _ (bX a k).symm rfl) ?_
           rintro e w9 ⟨⟨bV,gT,rfl,dM,jS⟩,bW⟩
           have bK:=Ext.below bD bW
           refine ⟨_,rfl,bK,?_⟩
           have gQ:Sz (a/((2:Int)^k)) 100:=Sz.div hl
           have qZ:Sz (a%((2:Int)^k)) 40:=Sz.mod kP (aS k)
           refine Pl.bN bK rfl rfl rfl rfl rfl ?_
           refine Pl.ak bK rfl rfl rfl rfl rfl rfl ?_
           refine Pl.ak bK rfl rfl rfl rfl rfl rfl ?_
           refine Pl.ak bK rfl rfl rfl rfl rfl rfl ?_
           refine Pl.af ?_
           have eH:=Ib.ext oC (Ext.below bU (Ext.below bO (Ext.below bF bW)))
           have iR:=Ib.ext wL (Ext.below bF bW)
           exact Pl.aW [(4,.pointer (some ⟨N2,0,none⟩)),(5,.pointer (some ⟨N4,0,none⟩)),(6,.pointer (some ⟨N7,0,none⟩)),(25,bV),(26,gT),(27,(.int .i64 0))] (Pl.aa rfl (Pl.aa rfl (Pl.aa rfl (Pl.aa rfl (Pl.aa rfl (Pl.aa rfl Pl.aA)))))) (hK _ _ ⟨N4,N7,bV,gT,rfl,(Ext.below hB3 (Ext.below hB4 (Ext.below dx (Ext.below bU (Ext.below bO (Ext.below bF bW)))))),(Nat.le_trans (Below.size (Ext.below hB3 hB4)) fE),eH,(Nat.le_trans (Below.size (Ext.below hB3 (Ext.below hB4 (Ext.below dx bU)))) jL),iR,dM,jS,(Nat.ne_of_lt (Nat.lt_of_lt_of_le (Ib.ext oC bU).1 jL))⟩)
       · refine bP rfl rfl rfl rfl (fun _ k=>Ext.below hS5 k) ?_
         intro N5 w6 bU iy oz
         have bS:=Ext.below hS5 bU
         refine Pl.af ?_
         refine Pl.aZ [(false,4,6159),(false,5,6175),(false,6,6207),(true,7,6271),(true,8,6399),(true,9,6655),(true,10,7167)] 8191 3 Pl.az (by kernel_rfl) (by kernel_rfl) (by kernel_rfl) ?_
         have pY:=U.below wJ (Ext.below dx bU)
         refine Pl.ah rfl rfl rfl rfl rfl mX ?_
         refine Calls.mono (iA _ _ 1 k (U.one pY) (by omega) (Nat.le_trans (Sz.lit (z:=1) (K:=1) (by decide) (by decide)) (by decide)) _ rfl) ?_
         rintro e w7 ⟨sG,rfl,jT,bO⟩
         have bE:=Ext.below bS bO
         refine ⟨_,rfl,bE,?_⟩
         refine Pl.ah rfl rfl rfl rfl rfl jm ?_
         refine Calls.mono (dL _ false _ (limbs (1*2^k)) jT (by rw [Nat.one_mul];exact Nat.le_trans (dQ (M:=40) (by omega)) (by decide)) _ (aI _) ((2:Int)^k) (eD k)) ?_
         rintro e w8 ⟨jN,rfl,iX,bF⟩
         have bD:=Ext.below bE bF
         refine ⟨_,rfl,bD,?_⟩
         have gJ:Sz ((2:Int)^k) 40:=Sz.two (by omega)
         have dI:=Zn.below ha (Ext.below hB1 (Ext.below hB2 (Ext.below hB3 (Ext.below hB4 (Ext.below dx (Ext.below bU (Ext.below bO bF)))))))
         refine Pl.ah rfl rfl rfl rfl rfl gy ?_
         refine Calls.mono (bZ _ _ _ a ((2:Int)^k) dI iX (Sz.le hl (by decide)) (Sz.le gJ (by decide)) (aS k) (shl a (-((k:Nat):Int))) _ (bX a k).symm rfl) ?_
         rintro e w9 ⟨⟨bG,bV,rfl,dH,dM⟩,bW⟩
         have bK:=Ext.below bD bW
         refine ⟨_,rfl,bK,?_⟩
         have gB:Sz (a/((2:Int)^k)) 100:=Sz.div hl
         have gQ:Sz (a%((2:Int)^k)) 40:=Sz.mod gJ (aS k)
         refine Pl.bN bK rfl rfl rfl rfl rfl ?_
         refine Pl.ak bK rfl rfl rfl rfl rfl rfl ?_
         refine Pl.ak bK rfl rfl rfl rfl rfl rfl ?_
         refine Pl.ak bK rfl rfl rfl rfl rfl rfl ?_
         refine Pl.af ?_
         have eH:=Ib.ext oC (Ext.below bU (Ext.below bO (Ext.below bF bW)))
         have eG:=Ib.ext oz (Ext.below bO (Ext.below bF bW))
         exact Pl.aW [(4,.pointer (some ⟨N2,0,none⟩)),(5,.pointer (some ⟨N4,0,none⟩)),(6,.pointer (some ⟨N5,0,none⟩)),(25,bG),(26,bV),(27,(.int .i64 0))] (Pl.aa rfl (Pl.aa rfl (Pl.aa rfl (Pl.aa rfl (Pl.aa rfl (Pl.aa rfl Pl.aA)))))) (hK _ _ ⟨N4,N5,bG,bV,rfl,(Ext.below hB3 (Ext.below hB4 (Ext.below dx (Ext.below bU (Ext.below bO (Ext.below bF bW)))))),(Nat.le_trans (Below.size (Ext.below hB3 hB4)) fE),eH,(Nat.le_trans (Below.size (Ext.below hB3 (Ext.below hB4 dx))) iy),eG,dH,dM,(Nat.ne_of_lt (Nat.lt_of_lt_of_le (oC).1 iy))⟩)
     · refine bP rfl rfl rfl rfl (fun _ k=>Ext.below dP k) ?_
       intro N4 w5 dx fE oC
       have hS5:=Ext.below dP dx
       refine Pl.af ?_
       refine Pl.cB [4,11] 10 (by kernel_rfl) (by kernel_rfl) (by kernel_rfl) (Pl.aj ?_ (Pl.aj ?_ Pl.aJ))
       · have pX:=U.below wJ dx
         refine Pl.ah rfl rfl rfl rfl rfl mX ?_
         refine Calls.mono (iA _ _ 1 k (U.one pX) (by omega) (Nat.le_trans (Sz.lit (z:=1) (K:=1) (by decide) (by decide)) (by decide)) _ rfl) ?_
         rintro e w6 ⟨wH,rfl,jo,bU⟩
         have bS:=Ext.below hS5 bU
         refine ⟨_,rfl,bS,?_⟩
         refine Pl.af ?_
         refine Pl.cB [5,11] 9 (by kernel_rfl) (by kernel_rfl) (by kernel_rfl) (Pl.aj ?_ (Pl.aj ?_ Pl.aJ))
         · refine Pl.ah rfl rfl rfl rfl rfl jm ?_
           refine Calls.mono (dL _ false _ (limbs (1*2^k)) jo (by rw [Nat.one_mul];exact Nat.le_trans (dQ (M:=40) (by omega)) (by decide)) _ (aI _) ((2:Int)^k) (eD k)) ?_
           rintro e w7 ⟨ow,rfl,jO,bO⟩
           have bE:=Ext.below bS bO
           refine ⟨_,rfl,bE,?_⟩
           have gI:Sz ((2:Int)^k) 40:=Sz.two (by omega)
           refine Pl.af ?_
           refine Pl.cB [6,11] 8 (by kernel_rfl) (by kernel_rfl) (by kernel_rfl) (Pl.aj ?_ (Pl.aj ?_ Pl.aJ))
           · have iP:=Zn.below ha (Ext.below hB1 (Ext.below hB2 (Ext.below hB3 (Ext.below hB4 (Ext.below dx (Ext.below bU bO))))))
             refine Pl.ah rfl rfl rfl rfl rfl gy ?_
             refine Calls.mono (bZ _ _ _ a ((2:Int)^k) iP jO (Sz.le hl (by decide)) (Sz.le gI (by decide)) (aS k) (shl a (-((k:Nat):Int))) _ (bX a k).symm rfl) ?_
             rintro e w8 ⟨⟨fK,bG,rfl,iQ,dH⟩,bF⟩
             have bD:=Ext.below bE bF
             refine ⟨_,rfl,bD,?_⟩
             have kP:Sz (a/((2:Int)^k)) 100:=Sz.div hl
             have gB:Sz (a%((2:Int)^k)) 40:=Sz.mod gI (aS k)
             refine Pl.af ?_
             refine Pl.aZ [(true,7,4223),(true,8,4351),(true,9,4607),(true,10,5119),(false,11,6143)] 8191 3 Pl.az (by kernel_rfl) (by kernel_rfl) (by kernel_rfl) ?_
             refine Pl.bN bD rfl rfl rfl rfl rfl ?_
             refine Pl.ak bD rfl rfl rfl rfl rfl rfl ?_
             refine Pl.ak bD rfl rfl rfl rfl rfl rfl ?_
             refine Pl.ak bD rfl rfl rfl rfl rfl rfl ?_
             refine bP rfl rfl rfl rfl (fun _ k=>Ext.below bD k) ?_
             intro mo w9 bW gp nH
             have bK:=Ext.below bD bW
             refine Pl.af ?_
             have eH:=Ib.ext oC (Ext.below bU (Ext.below bO (Ext.below bF bW)))
             have eF:=Zn.below iQ bW
             have eZ:=Zn.below dH bW
             exact Pl.aW [(4,.pointer (some ⟨N2,0,none⟩)),(5,.pointer (some ⟨mo,0,none⟩)),(6,.pointer (some ⟨N4,0,none⟩)),(25,fK),(26,bG),(27,(.int .i64 0))] (Pl.aa rfl (Pl.aa rfl (Pl.aa rfl (Pl.aa rfl (Pl.aa rfl (Pl.aa rfl Pl.aA)))))) (hK _ _ ⟨mo,N4,fK,bG,rfl,(Ext.below hB3 (Ext.below hB4 (Ext.below dx (Ext.below bU (Ext.below bO (Ext.below bF bW)))))),(Nat.le_trans (Below.size (Ext.below hB3 (Ext.below hB4 (Ext.below dx (Ext.below bU (Ext.below bO bF)))))) gp),nH,(Nat.le_trans (Below.size (Ext.below hB3 hB4)) fE),eH,eF,eZ,(Nat.ne_of_gt (Nat.lt_of_lt_of_le (Ib.ext oC (Ext.below bU (Ext.below bO bF))).1 gp))⟩)
           · refine bP rfl rfl rfl rfl (fun _ k=>Ext.below bE k) ?_
             intro N8 w8 bF mG BL
             have bD:=Ext.below bE bF
             refine Pl.af ?_
             refine Pl.aZ [(false,6,6207),(true,7,6271),(true,8,6399),(true,9,6655),(true,10,7167)] 8191 3 Pl.az (by kernel_rfl) (by kernel_rfl) (by kernel_rfl) ?_
             have dI:=Zn.below ha (Ext.below hB1 (Ext.below hB2 (Ext.below hB3 (Ext.below hB4 (Ext.below dx (Ext.below bU (Ext.below bO bF)))))))
             have jD:=Zn.below jO bF
             refine Pl.ah rfl rfl rfl rfl rfl gy ?_
             refine Calls.mono (bZ _ _ _ a ((2:Int)^k) dI jD (Sz.le hl (by decide)) (Sz.le gI (by decide)) (aS k) (shl a (-((k:Nat):Int))) _ (bX a k).symm rfl) ?_
             rintro e w9 ⟨⟨bV,gT,rfl,dM,jS⟩,bW⟩
             have bK:=Ext.below bD bW
             refine ⟨_,rfl,bK,?_⟩
             have gQ:Sz (a/((2:Int)^k)) 100:=Sz.div hl
             have qZ:Sz (a%((2:Int)^k)) 40:=Sz.mod gI (aS k)
             refine Pl.bN bK rfl rfl rfl rfl rfl ?_
             refine Pl.ak bK rfl rfl rfl rfl rfl rfl ?_
             refine Pl.ak bK rfl rfl rfl rfl rfl rfl ?_
             refine Pl.ak bK rfl rfl rfl rfl rfl rfl ?_
             refine Pl.af ?_
             have kQ:=Ib.ext BL bW
             have eH:=Ib.ext oC (Ext.below bU (Ext.below bO (Ext.below bF bW)))
             exact Pl.aW [(4,.pointer (some ⟨N2,0,none⟩)),(5,.pointer (some ⟨N8,0,none⟩)),(6,.pointer (some ⟨N4,0,none⟩)),(25,bV),(26,gT),(27,(.int .i64 0))] (Pl.aa rfl (Pl.aa rfl (Pl.aa rfl (Pl.aa rfl (Pl.aa rfl (Pl.aa rfl Pl.aA)))))) (hK _ _ ⟨N8,N4,bV,gT,rfl,(Ext.below hB3 (Ext.below hB4 (Ext.below dx (Ext.below bU (Ext.below bO (Ext.below bF bW)))))),(Nat.le_trans (Below.size (Ext.below hB3 (Ext.below hB4 (Ext.below dx (Ext.below bU bO))))) mG),kQ,(Nat.le_trans (Below.size (Ext.below hB3 hB4)) fE),eH,dM,jS,(Nat.ne_of_gt (Nat.lt_of_lt_of_le (Ib.ext oC (Ext.below bU bO)).1 mG))⟩)
         · refine bP rfl rfl rfl rfl (fun _ k=>Ext.below bS k) ?_
           intro N7 w7 bO jL wL
           have bE:=Ext.below bS bO
           refine Pl.af ?_
           refine Pl.aZ [(false,5,6175),(false,6,6207),(true,7,6271),(true,8,6399),(true,9,6655),(true,10,7167)] 8191 3 Pl.az (by kernel_rfl) (by kernel_rfl) (by kernel_rfl) ?_
           have gz:=Un.below jo bO
           refine Pl.ah rfl rfl rfl rfl rfl jm ?_
           refine Calls.mono (dL _ false _ (limbs (1*2^k)) gz (by rw [Nat.one_mul];exact Nat.le_trans (dQ (M:=40) (by omega)) (by decide)) _ (aI _) ((2:Int)^k) (eD k)) ?_
           rintro e w8 ⟨fK,rfl,iQ,bF⟩
           have bD:=Ext.below bE bF
           refine ⟨_,rfl,bD,?_⟩
           have kP:Sz ((2:Int)^k) 40:=Sz.two (by omega)
           have dI:=Zn.below ha (Ext.below hB1 (Ext.below hB2 (Ext.below hB3 (Ext.below hB4 (Ext.below dx (Ext.below bU (Ext.below bO bF)))))))
           refine Pl.ah rfl rfl rfl rfl rfl gy ?_
           refine Calls.mono (bZ _ _ _ a ((2:Int)^k) dI iQ (Sz.le hl (by decide)) (Sz.le kP (by decide)) (aS k) (shl a (-((k:Nat):Int))) _ (bX a k).symm rfl) ?_
           rintro e w9 ⟨⟨bV,gT,rfl,dM,jS⟩,bW⟩
           have bK:=Ext.below bD bW
           refine ⟨_,rfl,bK,?_⟩
           have gQ:Sz (a/((2:Int)^k)) 100:=Sz.div hl
           have qZ:Sz (a%((2:Int)^k)) 40:=Sz.mod kP (aS k)
           refine Pl.bN bK rfl rfl rfl rfl rfl ?_
           refine Pl.ak bK rfl rfl rfl rfl rfl rfl ?_
           refine Pl.ak bK rfl rfl rfl rfl rfl rfl ?_
           refine Pl.ak bK rfl rfl rfl rfl rfl rfl ?_
           refine Pl.af ?_
           have iR:=Ib.ext wL (Ext.below bF bW)
           have eH:=Ib.ext oC (Ext.below bU (Ext.below bO (Ext.below bF bW)))
           exact Pl.aW [(4,.pointer (some ⟨N2,0,none⟩)),(5,.pointer (some ⟨N7,0,none⟩)),(6,.pointer (some ⟨N4,0,none⟩)),(25,bV),(26,gT),(27,(.int .i64 0))] (Pl.aa rfl (Pl.aa rfl (Pl.aa rfl (Pl.aa rfl (Pl.aa rfl (Pl.aa rfl Pl.aA)))))) (hK _ _ ⟨N7,N4,bV,gT,rfl,(Ext.below hB3 (Ext.below hB4 (Ext.below dx (Ext.below bU (Ext.below bO (Ext.below bF bW)))))),(Nat.le_trans (Below.size (Ext.below hB3 (Ext.below hB4 (Ext.below dx bU)))) jL),iR,(Nat.le_trans (Below.size (Ext.below hB3 hB4)) fE),eH,dM,jS,(Nat.ne_of_gt (Nat.lt_of_lt_of_le (Ib.ext oC bU).1 jL))⟩)
       · refine bP rfl rfl rfl rfl (fun _ k=>Ext.below hS5 k) ?_
         intro N5 w6 bU iy oz
         have bS:=Ext.below hS5 bU
         refine Pl.af ?_
         refine Pl.aZ [(false,4,6159),(false,5,6175),(false,6,6207),(true,7,6271),(true,8,6399),(true,9,6655),(true,10,7167)] 8191 3 Pl.az (by kernel_rfl) (by kernel_rfl) (by kernel_rfl) ?_
         have pY:=U.below wJ (Ext.below dx bU)
         refine Pl.ah rfl rfl rfl rfl rfl mX ?_
         refine Calls.mono (iA _ _ 1 k (U.one pY) (by omega) (Nat.le_trans (Sz.lit (z:=1) (K:=1) (by decide) (by decide)) (by decide)) _ rfl) ?_
         rintro e w7 ⟨sG,rfl,jT,bO⟩
         have bE:=Ext.below bS bO
         refine ⟨_,rfl,bE,?_⟩
         refine Pl.ah rfl rfl rfl rfl rfl jm ?_
         refine Calls.mono (dL _ false _ (limbs (1*2^k)) jT (by rw [Nat.one_mul];exact Nat.le_trans (dQ (M:=40) (by omega)) (by decide)) _ (aI _) ((2:Int)^k) (eD k)) ?_
         rintro e w8 ⟨jN,rfl,iX,bF⟩
         have bD:=Ext.below bE bF
         refine ⟨_,rfl,bD,?_⟩
         have gJ:Sz ((2:Int)^k) 40:=Sz.two (by omega)
         have dI:=Zn.below ha (Ext.below hB1 (Ext.below hB2 (Ext.below hB3 (Ext.below hB4 (Ext.below dx (Ext.below bU (Ext.below bO bF)))))))
         refine Pl.ah rfl rfl rfl rfl rfl gy ?_
         refine Calls.mono (bZ _ _ _ a ((2:Int)^k) dI iX (Sz.le hl (by decide)) (Sz.le gJ (by decide)) (aS k) (shl a (-((k:Nat):Int))) _ (bX a k).symm rfl) ?_
         rintro e w9 ⟨⟨bG,bV,rfl,dH,dM⟩,bW⟩
         have bK:=Ext.below bD bW
         refine ⟨_,rfl,bK,?_⟩
         have gB:Sz (a/((2:Int)^k)) 100:=Sz.div hl
         have gQ:Sz (a%((2:Int)^k)) 40:=Sz.mod gJ (aS k)
         refine Pl.bN bK rfl rfl rfl rfl rfl ?_
         refine Pl.ak bK rfl rfl rfl rfl rfl rfl ?_
         refine Pl.ak bK rfl rfl rfl rfl rfl rfl ?_
         refine Pl.ak bK rfl rfl rfl rfl rfl rfl ?_
         refine Pl.af ?_
         have eG:=Ib.ext oz (Ext.below bO (Ext.below bF bW))
         have eH:=Ib.ext oC (Ext.below bU (Ext.below bO (Ext.below bF bW)))
         exact Pl.aW [(4,.pointer (some ⟨N2,0,none⟩)),(5,.pointer (some ⟨N5,0,none⟩)),(6,.pointer (some ⟨N4,0,none⟩)),(25,bG),(26,bV),(27,(.int .i64 0))] (Pl.aa rfl (Pl.aa rfl (Pl.aa rfl (Pl.aa rfl (Pl.aa rfl (Pl.aa rfl Pl.aA)))))) (hK _ _ ⟨N5,N4,bG,bV,rfl,(Ext.below hB3 (Ext.below hB4 (Ext.below dx (Ext.below bU (Ext.below bO (Ext.below bF bW)))))),(Nat.le_trans (Below.size (Ext.below hB3 (Ext.below hB4 dx))) iy),eG,(Nat.le_trans (Below.size (Ext.below hB3 hB4)) fE),eH,dH,dM,(Nat.ne_of_gt (Nat.lt_of_lt_of_le (oC).1 iy))⟩)
   · refine bP rfl rfl rfl rfl (fun _ k=>Ext.below eY k) ?_
     intro N3 w4 hB4 iJ oD
     have dP:=Ext.below eY hB4
     refine Pl.af ?_
     refine Pl.cB [1,12] 11 (by kernel_rfl) (by kernel_rfl) (by kernel_rfl) (Pl.aj ?_ (Pl.aj ?_ Pl.aJ))
     · refine lK (n:=1) (by decide) rfl rfl rfl rfl rfl (fun _ k=>Ext.below dP k) ?_
       intro A4 w5 dx wM
       have hS5:=Ext.below dP dx
       refine Pl.af ?_
       refine Pl.cB [4,12] 10 (by kernel_rfl) (by kernel_rfl) (by kernel_rfl) (Pl.aj ?_ (Pl.aj ?_ Pl.aJ))
       · refine Pl.ah rfl rfl rfl rfl rfl mX ?_
         refine Calls.mono (iA _ _ 1 k (U.one wM) (by omega) (Nat.le_trans (Sz.lit (z:=1) (K:=1) (by decide) (by decide)) (by decide)) _ rfl) ?_
         rintro e w6 ⟨wH,rfl,jo,bU⟩
         have bS:=Ext.below hS5 bU
         refine ⟨_,rfl,bS,?_⟩
         refine Pl.af ?_
         refine Pl.cB [5,12] 9 (by kernel_rfl) (by kernel_rfl) (by kernel_rfl) (Pl.aj ?_ (Pl.aj ?_ Pl.aJ))
         · refine Pl.ah rfl rfl rfl rfl rfl jm ?_
           refine Calls.mono (dL _ false _ (limbs (1*2^k)) jo (by rw [Nat.one_mul];exact Nat.le_trans (dQ (M:=40) (by omega)) (by decide)) _ (aI _) ((2:Int)^k) (eD k)) ?_
           rintro e w7 ⟨sG,rfl,jT,bO⟩
           have bE:=Ext.below bS bO
           refine ⟨_,rfl,bE,?_⟩
           have p8:Sz ((2:Int)^k) 40:=Sz.two (by omega)
           refine Pl.af ?_
           refine Pl.cB [6,12] 8 (by kernel_rfl) (by kernel_rfl) (by kernel_rfl) (Pl.aj ?_ (Pl.aj ?_ Pl.aJ))
           · have iP:=Zn.below ha (Ext.below hB1 (Ext.below hB2 (Ext.below hB3 (Ext.below hB4 (Ext.below dx (Ext.below bU bO))))))
             refine Pl.ah rfl rfl rfl rfl rfl gy ?_
             refine Calls.mono (bZ _ _ _ a ((2:Int)^k) iP jT (Sz.le hl (by decide)) (Sz.le p8 (by decide)) (aS k) (shl a (-((k:Nat):Int))) _ (bX a k).symm rfl) ?_
             rintro e w8 ⟨⟨jN,fK,rfl,iX,iQ⟩,bF⟩
             have bD:=Ext.below bE bF
             refine ⟨_,rfl,bD,?_⟩
             have gJ:Sz (a/((2:Int)^k)) 100:=Sz.div hl
             have kP:Sz (a%((2:Int)^k)) 40:=Sz.mod p8 (aS k)
             refine Pl.af ?_
             refine Pl.aZ [(true,7,2175),(true,8,2303),(true,9,2559),(true,10,3071),(false,12,4095)] 8191 3 Pl.az (by kernel_rfl) (by kernel_rfl) (by kernel_rfl) ?_
             refine Pl.bN bD rfl rfl rfl rfl rfl ?_
             refine Pl.ak bD rfl rfl rfl rfl rfl rfl ?_
             refine Pl.ak bD rfl rfl rfl rfl rfl rfl ?_
             refine Pl.ak bD rfl rfl rfl rfl rfl rfl ?_
             refine bP rfl rfl rfl rfl (fun _ k=>Ext.below bD k) ?_
             intro rM w9 bW jA sD
             have bK:=Ext.below bD bW
             refine Pl.af ?_
             have eO:=Ib.ext oD (Ext.below dx (Ext.below bU (Ext.below bO (Ext.below bF bW))))
             have jC:=Zn.below iX bW
             have eF:=Zn.below iQ bW
             exact Pl.aW [(4,.pointer (some ⟨N2,0,none⟩)),(5,.pointer (some ⟨N3,0,none⟩)),(6,.pointer (some ⟨rM,0,none⟩)),(25,jN),(26,fK),(27,(.int .i64 0))] (Pl.aa rfl (Pl.aa rfl (Pl.aa rfl (Pl.aa rfl (Pl.aa rfl (Pl.aa rfl Pl.aA)))))) (hK _ _ ⟨N3,rM,jN,fK,rfl,(Ext.below hB3 (Ext.below hB4 (Ext.below dx (Ext.below bU (Ext.below bO (Ext.below bF bW)))))),(Nat.le_trans (Below.size hB3) iJ),eO,(Nat.le_trans (Below.size (Ext.below hB3 (Ext.below hB4 (Ext.below dx (Ext.below bU (Ext.below bO bF)))))) jA),sD,jC,eF,(Nat.ne_of_lt (Nat.lt_of_lt_of_le (Ib.ext oD (Ext.below dx (Ext.below bU (Ext.below bO bF)))).1 jA))⟩)
           · refine bP rfl rfl rfl rfl (fun _ k=>Ext.below bE k) ?_
             intro N7 w8 bF jL wL
             have bD:=Ext.below bE bF
             refine Pl.af ?_
             refine Pl.aZ [(false,6,6207),(true,7,6271),(true,8,6399),(true,9,6655),(true,10,7167)] 8191 3 Pl.az (by kernel_rfl) (by kernel_rfl) (by kernel_rfl) ?_
             have dI:=Zn.below ha (Ext.below hB1 (Ext.below hB2 (Ext.below hB3 (Ext.below hB4 (Ext.below dx (Ext.below bU (Ext.below bO bF)))))))
             have qa:=Zn.below jT bF
             refine Pl.ah rfl rfl rfl rfl rfl gy ?_
             refine Calls.mono (bZ _ _ _ a ((2:Int)^k) dI qa (Sz.le hl (by decide)) (Sz.le p8 (by decide)) (aS k) (shl a (-((k:Nat):Int))) _ (bX a k).symm rfl) ?_
             rintro e w9 ⟨⟨bG,bV,rfl,dH,dM⟩,bW⟩
             have bK:=Ext.below bD bW
             refine ⟨_,rfl,bK,?_⟩
             have gB:Sz (a/((2:Int)^k)) 100:=Sz.div hl
             have gQ:Sz (a%((2:Int)^k)) 40:=Sz.mod p8 (aS k)
             refine Pl.bN bK rfl rfl rfl rfl rfl ?_
             refine Pl.ak bK rfl rfl rfl rfl rfl rfl ?_
             refine Pl.ak bK rfl rfl rfl rfl rfl rfl ?_
             refine Pl.ak bK rfl rfl rfl rfl rfl rfl ?_
             refine Pl.af ?_
             have eO:=Ib.ext oD (Ext.below dx (Ext.below bU (Ext.below bO (Ext.below bF bW))))
             have iR:=Ib.ext wL bW
             exact Pl.aW [(4,.pointer (some ⟨N2,0,none⟩)),(5,.pointer (some ⟨N3,0,none⟩)),(6,.pointer (some ⟨N7,0,none⟩)),(25,bG),(26,bV),(27,(.int .i64 0))] (Pl.aa rfl (Pl.aa rfl (Pl.aa rfl (Pl.aa rfl (Pl.aa rfl (Pl.aa rfl Pl.aA)))))) (hK _ _ ⟨N3,N7,bG,bV,rfl,(Ext.below hB3 (Ext.below hB4 (Ext.below dx (Ext.below bU (Ext.below bO (Ext.below bF bW)))))),(Nat.le_trans (Below.size hB3) iJ),eO,(Nat.le_trans (Below.size (Ext.below hB3 (Ext.below hB4 (Ext.below dx (Ext.below bU bO))))) jL),iR,dH,dM,(Nat.ne_of_lt (Nat.lt_of_lt_of_le (Ib.ext oD (Ext.below dx (Ext.below bU bO))).1 jL))⟩)
         · refine bP rfl rfl rfl rfl (fun _ k=>Ext.below bS k) ?_
           intro N6 w7 bO iL qY
           have bE:=Ext.below bS bO
           refine Pl.af ?_
           refine Pl.aZ [(false,5,6175),(false,6,6207),(true,7,6271),(true,8,6399),(true,9,6655),(true,10,7167)] 8191 3 Pl.az (by kernel_rfl) (by kernel_rfl) (by kernel_rfl) ?_
           have gz:=Un.below jo bO
           refine Pl.ah rfl rfl rfl rfl rfl jm ?_
           refine Calls.mono (dL _ false _ (limbs (1*2^k)) gz (by rw [Nat.one_mul];exact Nat.le_trans (dQ (M:=40) (by omega)) (by decide)) _ (aI _) ((2:Int)^k) (eD k)) ?_
           rintro e w8 ⟨jN,rfl,iX,bF⟩
           have bD:=Ext.below bE bF
           refine ⟨_,rfl,bD,?_⟩
           have gJ:Sz ((2:Int)^k) 40:=Sz.two (by omega)
           have dI:=Zn.below ha (Ext.below hB1 (Ext.below hB2 (Ext.below hB3 (Ext.below hB4 (Ext.below dx (Ext.below bU (Ext.below bO bF)))))))
           refine Pl.ah rfl rfl rfl rfl rfl gy ?_
           refine Calls.mono (bZ _ _ _ a ((2:Int)^k) dI iX (Sz.le hl (by decide)) (Sz.le gJ (by decide)) (aS k) (shl a (-((k:Nat):Int))) _ (bX a k).symm rfl) ?_
           rintro e w9 ⟨⟨bG,bV,rfl,dH,dM⟩,bW⟩
           have bK:=Ext.below bD bW
           refine ⟨_,rfl,bK,?_⟩
           have gB:Sz (a/((2:Int)^k)) 100:=Sz.div hl
           have gQ:Sz (a%((2:Int)^k)) 40:=Sz.mod gJ (aS k)
           refine Pl.bN bK rfl rfl rfl rfl rfl ?_
           refine Pl.ak bK rfl rfl rfl rfl rfl rfl ?_
           refine Pl.ak bK rfl rfl rfl rfl rfl rfl ?_
           refine Pl.ak bK rfl rfl rfl rfl rfl rfl ?_
           refine Pl.af ?_
           have eO:=Ib.ext oD (Ext.below dx (Ext.below bU (Ext.below bO (Ext.below bF bW))))
           have fM:=Ib.ext qY (Ext.below bF bW)
           exact Pl.aW [(4,.pointer (some ⟨N2,0,none⟩)),(5,.pointer (some ⟨N3,0,none⟩)),(6,.pointer (some ⟨N6,0,none⟩)),(25,bG),(26,bV),(27,(.int .i64 0))] (Pl.aa rfl (Pl.aa rfl (Pl.aa rfl (Pl.aa rfl (Pl.aa rfl (Pl.aa rfl Pl.aA)))))) (hK _ _ ⟨N3,N6,bG,bV,rfl,(Ext.below hB3 (Ext.below hB4 (Ext.below dx (Ext.below bU (Ext.below bO (Ext.below bF bW)))))),(Nat.le_trans (Below.size hB3) iJ),eO,(Nat.le_trans (Below.size (Ext.below hB3 (Ext.below hB4 (Ext.below dx bU)))) iL),fM,dH,dM,(Nat.ne_of_lt (Nat.lt_of_lt_of_le (Ib.ext oD (Ext.below dx bU)).1 iL))⟩)
       · refine bP rfl rfl rfl rfl (fun _ k=>Ext.below hS5 k) ?_
         intro N5 w6 bU iy oz
         have bS:=Ext.below hS5 bU
         refine Pl.af ?_
         refine Pl.aZ [(false,4,6159),(false,5,6175),(false,6,6207),(true,7,6271),(true,8,6399),(true,9,6655),(true,10,7167)] 8191 3 Pl.az (by kernel_rfl) (by kernel_rfl) (by kernel_rfl) ?_
         have qb:=U.below wM bU
         refine Pl.ah rfl rfl rfl rfl rfl mX ?_
         refine Calls.mono (iA _ _ 1 k (U.one qb) (by omega) (Nat.le_trans (Sz.lit (z:=1) (K:=1) (by decide) (by decide)) (by decide)) _ rfl) ?_
         rintro e w7 ⟨sG,rfl,jT,bO⟩
         have bE:=Ext.below bS bO
         refine ⟨_,rfl,bE,?_⟩
         refine Pl.ah rfl rfl rfl rfl rfl jm ?_
         refine Calls.mono (dL _ false _ (limbs (1*2^k)) jT (by rw [Nat.one_mul];exact Nat.le_trans (dQ (M:=40) (by omega)) (by decide)) _ (aI _) ((2:Int)^k) (eD k)) ?_
         rintro e w8 ⟨jN,rfl,iX,bF⟩
         have bD:=Ext.below bE bF
         refine ⟨_,rfl,bD,?_⟩
         have gJ:Sz ((2:Int)^k) 40:=Sz.two (by omega)
         have dI:=Zn.below ha (Ext.below hB1 (Ext.below hB2 (Ext.below hB3 (Ext.below hB4 (Ext.below dx (Ext.below bU (Ext.below bO bF)))))))
         refine Pl.ah rfl rfl rfl rfl rfl gy ?_
         refine Calls.mono (bZ _ _ _ a ((2:Int)^k) dI iX (Sz.le hl (by decide)) (Sz.le gJ (by decide)) (aS k) (shl a (-((k:Nat):Int))) _ (bX a k).symm rfl) ?_
         rintro e w9 ⟨⟨bG,bV,rfl,dH,dM⟩,bW⟩
         have bK:=Ext.below bD bW
         refine ⟨_,rfl,bK,?_⟩
         have gB:Sz (a/((2:Int)^k)) 100:=Sz.div hl
         have gQ:Sz (a%((2:Int)^k)) 40:=Sz.mod gJ (aS k)
         refine Pl.bN bK rfl rfl rfl rfl rfl ?_
         refine Pl.ak bK rfl rfl rfl rfl rfl rfl ?_
         refine Pl.ak bK rfl rfl rfl rfl rfl rfl ?_
         refine Pl.ak bK rfl rfl rfl rfl rfl rfl ?_
         refine Pl.af ?_
         have eO:=Ib.ext oD (Ext.below dx (Ext.below bU (Ext.below bO (Ext.below bF bW))))
         have eG:=Ib.ext oz (Ext.below bO (Ext.below bF bW))
         exact Pl.aW [(4,.pointer (some ⟨N2,0,none⟩)),(5,.pointer (some ⟨N3,0,none⟩)),(6,.pointer (some ⟨N5,0,none⟩)),(25,bG),(26,bV),(27,(.int .i64 0))] (Pl.aa rfl (Pl.aa rfl (Pl.aa rfl (Pl.aa rfl (Pl.aa rfl (Pl.aa rfl Pl.aA)))))) (hK _ _ ⟨N3,N5,bG,bV,rfl,(Ext.below hB3 (Ext.below hB4 (Ext.below dx (Ext.below bU (Ext.below bO (Ext.below bF bW)))))),(Nat.le_trans (Below.size hB3) iJ),eO,(Nat.le_trans (Below.size (Ext.below hB3 (Ext.below hB4 dx))) iy),eG,dH,dM,(Nat.ne_of_lt (Nat.lt_of_lt_of_le (Ib.ext oD dx).1 iy))⟩)
     · refine bP rfl rfl rfl rfl (fun _ k=>Ext.below dP k) ?_
       intro N4 w5 dx fE oC
       have hS5:=Ext.below dP dx
       refine Pl.af ?_
       refine Pl.aZ [(false,1,6157),(false,4,6159),(false,5,6175),(false,6,6207),(true,7,6271),(true,8,6399),(true,9,6655),(true,10,7167)] 8191 3 Pl.az (by kernel_rfl) (by kernel_rfl) (by kernel_rfl) ?_
       refine lK (n:=1) (by decide) rfl rfl rfl rfl rfl (fun _ k=>Ext.below hS5 k) ?_
       intro A5 w6 bU BM
       have bS:=Ext.below hS5 bU
       refine Pl.ah rfl rfl rfl rfl rfl mX ?_
       refine Calls.mono (iA _ _ 1 k (U.one BM) (by omega) (Nat.le_trans (Sz.lit (z:=1) (K:=1) (by decide) (by decide)) (by decide)) _ rfl) ?_
       rintro e w7 ⟨sG,rfl,jT,bO⟩
       have bE:=Ext.below bS bO
       refine ⟨_,rfl,bE,?_⟩
       refine Pl.ah rfl rfl rfl rfl rfl jm ?_
       refine Calls.mono (dL _ false _ (limbs (1*2^k)) jT (by rw [Nat.one_mul];exact Nat.le_trans (dQ (M:=40) (by omega)) (by decide)) _ (aI _) ((2:Int)^k) (eD k)) ?_
       rintro e w8 ⟨ow,rfl,jO,bF⟩
       have bD:=Ext.below bE bF
       refine ⟨_,rfl,bD,?_⟩
       have gI:Sz ((2:Int)^k) 40:=Sz.two (by omega)
       have dI:=Zn.below ha (Ext.below hB1 (Ext.below hB2 (Ext.below hB3 (Ext.below hB4 (Ext.below dx (Ext.below bU (Ext.below bO bF)))))))
       refine Pl.ah rfl rfl rfl rfl rfl gy ?_
       refine Calls.mono (bZ _ _ _ a ((2:Int)^k) dI jO (Sz.le hl (by decide)) (Sz.le gI (by decide)) (aS k) (shl a (-((k:Nat):Int))) _ (bX a k).symm rfl) ?_
       rintro e w9 ⟨⟨fK,bG,rfl,iQ,dH⟩,bW⟩
       have bK:=Ext.below bD bW
       refine ⟨_,rfl,bK,?_⟩
       have kP:Sz (a/((2:Int)^k)) 100:=Sz.div hl
       have gB:Sz (a%((2:Int)^k)) 40:=Sz.mod gI (aS k)
       refine Pl.bN bK rfl rfl rfl rfl rfl ?_
       refine Pl.ak bK rfl rfl rfl rfl rfl rfl ?_
       refine Pl.ak bK rfl rfl rfl rfl rfl rfl ?_
       refine Pl.ak bK rfl rfl rfl rfl rfl rfl ?_
       refine Pl.af ?_
       have eO:=Ib.ext oD (Ext.below dx (Ext.below bU (Ext.below bO (Ext.below bF bW))))
       have eH:=Ib.ext oC (Ext.below bU (Ext.below bO (Ext.below bF bW)))
       exact Pl.aW [(4,.pointer (some ⟨N2,0,none⟩)),(5,.pointer (some ⟨N3,0,none⟩)),(6,.pointer (some ⟨N4,0,none⟩)),(25,fK),(26,bG),(27,(.int .i64 0))] (Pl.aa rfl (Pl.aa rfl (Pl.aa rfl (Pl.aa rfl (Pl.aa rfl (Pl.aa rfl Pl.aA)))))) (hK _ _ ⟨N3,N4,fK,bG,rfl,(Ext.below hB3 (Ext.below hB4 (Ext.below dx (Ext.below bU (Ext.below bO (Ext.below bF bW)))))),(Nat.le_trans (Below.size hB3) iJ),eO,(Nat.le_trans (Below.size (Ext.below hB3 hB4)) fE),eH,iQ,dH,(Nat.ne_of_lt (Nat.lt_of_lt_of_le (oD).1 fE))⟩)
   · refine bP rfl rfl rfl rfl (fun _ k=>Ext.below eY k) ?_
     intro N3 w4 hB4 iJ oD
     have dP:=Ext.below eY hB4
     refine Pl.af ?_
     refine Pl.cB [1,11] 11 (by kernel_rfl) (by kernel_rfl) (by kernel_rfl) (Pl.aj ?_ (Pl.aj ?_ Pl.aJ))
     · refine lK (n:=1) (by decide) rfl rfl rfl rfl rfl (fun _ k=>Ext.below dP k) ?_
       intro A4 w5 dx wM
       have hS5:=Ext.below dP dx
       refine Pl.af ?_
       refine Pl.cB [4,11] 10 (by kernel_rfl) (by kernel_rfl) (by kernel_rfl) (Pl.aj ?_ (Pl.aj ?_ Pl.aJ))
       · refine Pl.ah rfl rfl rfl rfl rfl mX ?_
         refine Calls.mono (iA _ _ 1 k (U.one wM) (by omega) (Nat.le_trans (Sz.lit (z:=1) (K:=1) (by decide) (by decide)) (by decide)) _ rfl) ?_
         rintro e w6 ⟨wH,rfl,jo,bU⟩
         have bS:=Ext.below hS5 bU
         refine ⟨_,rfl,bS,?_⟩
         refine Pl.af ?_
         refine Pl.cB [5,11] 9 (by kernel_rfl) (by kernel_rfl) (by kernel_rfl) (Pl.aj ?_ (Pl.aj ?_ Pl.aJ))
         · refine Pl.ah rfl rfl rfl rfl rfl jm ?_
           refine Calls.mono (dL _ false _ (limbs (1*2^k)) jo (by rw [Nat.one_mul];exact Nat.le_trans (dQ (M:=40) (by omega)) (by decide)) _ (aI _) ((2:Int)^k) (eD k)) ?_
           rintro e w7 ⟨sG,rfl,jT,bO⟩
           have bE:=Ext.below bS bO
           refine ⟨_,rfl,bE,?_⟩
           have p8:Sz ((2:Int)^k) 40:=Sz.two (by omega)
           refine Pl.af ?_
           refine Pl.cB [6,11] 8 (by kernel_rfl) (by kernel_rfl) (by kernel_rfl) (Pl.aj ?_ (Pl.aj ?_ Pl.aJ))
           · have iP:=Zn.below ha (Ext.below hB1 (Ext.below hB2 (Ext.below hB3 (Ext.below hB4 (Ext.below dx (Ext.below bU bO))))))
             refine Pl.ah rfl rfl rfl rfl rfl gy ?_
             refine Calls.mono (bZ _ _ _ a ((2:Int)^k) iP jT (Sz.le hl (by decide)) (Sz.le p8 (by decide)) (aS k) (shl a (-((k:Nat):Int))) _ (bX a k).symm rfl) ?_
             rintro e w8 ⟨⟨jN,fK,rfl,iX,iQ⟩,bF⟩
             have bD:=Ext.below bE bF
             refine ⟨_,rfl,bD,?_⟩
             have gJ:Sz (a/((2:Int)^k)) 100:=Sz.div hl
             have kP:Sz (a%((2:Int)^k)) 40:=Sz.mod p8 (aS k)
             refine Pl.af ?_
             refine Pl.aZ [(true,7,4223),(true,8,4351),(true,9,4607),(true,10,5119),(false,11,6143)] 8191 3 Pl.az (by kernel_rfl) (by kernel_rfl) (by kernel_rfl) ?_
             refine Pl.bN bD rfl rfl rfl rfl rfl ?_
             refine Pl.ak bD rfl rfl rfl rfl rfl rfl ?_
             refine Pl.ak bD rfl rfl rfl rfl rfl rfl ?_
             refine Pl.ak bD rfl rfl rfl rfl rfl rfl ?_
             refine bP rfl rfl rfl rfl (fun _ k=>Ext.below bD k) ?_
             intro rM w9 bW jA sD
             have bK:=Ext.below bD bW
             refine Pl.af ?_
             have eO:=Ib.ext oD (Ext.below dx (Ext.below bU (Ext.below bO (Ext.below bF bW))))
             have jC:=Zn.below iX bW
             have eF:=Zn.below iQ bW
             exact Pl.aW [(4,.pointer (some ⟨N2,0,none⟩)),(5,.pointer (some ⟨rM,0,none⟩)),(6,.pointer (some ⟨N3,0,none⟩)),(25,jN),(26,fK),(27,(.int .i64 0))] (Pl.aa rfl (Pl.aa rfl (Pl.aa rfl (Pl.aa rfl (Pl.aa rfl (Pl.aa rfl Pl.aA)))))) (hK _ _ ⟨rM,N3,jN,fK,rfl,(Ext.below hB3 (Ext.below hB4 (Ext.below dx (Ext.below bU (Ext.below bO (Ext.below bF bW)))))),(Nat.le_trans (Below.size (Ext.below hB3 (Ext.below hB4 (Ext.below dx (Ext.below bU (Ext.below bO bF)))))) jA),sD,(Nat.le_trans (Below.size hB3) iJ),eO,jC,eF,(Nat.ne_of_gt (Nat.lt_of_lt_of_le (Ib.ext oD (Ext.below dx (Ext.below bU (Ext.below bO bF)))).1 jA))⟩)
           · refine bP rfl rfl rfl rfl (fun _ k=>Ext.below bE k) ?_
             intro N7 w8 bF jL wL
             have bD:=Ext.below bE bF
             refine Pl.af ?_
             refine Pl.aZ [(false,6,6207),(true,7,6271),(true,8,6399),(true,9,6655),(true,10,7167)] 8191 3 Pl.az (by kernel_rfl) (by kernel_rfl) (by kernel_rfl) ?_
             have dI:=Zn.below ha (Ext.below hB1 (Ext.below hB2 (Ext.below hB3 (Ext.below hB4 (Ext.below dx (Ext.below bU (Ext.below bO bF)))))))
             have qa:=Zn.below jT bF
             refine Pl.ah rfl rfl rfl rfl rfl gy ?_
             refine Calls.mono (bZ _ _ _ a ((2:Int)^k) dI qa (Sz.le hl (by decide)) (Sz.le p8 (by decide)) (aS k) (shl a (-((k:Nat):Int))) _ (bX a k).symm rfl) ?_
             rintro e w9 ⟨⟨bG,bV,rfl,dH,dM⟩,bW⟩
             have bK:=Ext.below bD bW
             refine ⟨_,rfl,bK,?_⟩
             have gB:Sz (a/((2:Int)^k)) 100:=Sz.div hl
             have gQ:Sz (a%((2:Int)^k)) 40:=Sz.mod p8 (aS k)
             refine Pl.bN bK rfl rfl rfl rfl rfl ?_
             refine Pl.ak bK rfl rfl rfl rfl rfl rfl ?_
             refine Pl.ak bK rfl rfl rfl rfl rfl rfl ?_
             refine Pl.ak bK rfl rfl rfl rfl rfl rfl ?_
             refine Pl.af ?_
             have iR:=Ib.ext wL bW
             have eO:=Ib.ext oD (Ext.below dx (Ext.below bU (Ext.below bO (Ext.below bF bW))))
             exact Pl.aW [(4,.pointer (some ⟨N2,0,none⟩)),(5,.pointer (some ⟨N7,0,none⟩)),(6,.pointer (some ⟨N3,0,none⟩)),(25,bG),(26,bV),(27,(.int .i64 0))] (Pl.aa rfl (Pl.aa rfl (Pl.aa rfl (Pl.aa rfl (Pl.aa rfl (Pl.aa rfl Pl.aA)))))) (hK _ _ ⟨N7,N3,bG,bV,rfl,(Ext.below hB3 (Ext.below hB4 (Ext.below dx (Ext.below bU (Ext.below bO (Ext.below bF bW)))))),(Nat.le_trans (Below.size (Ext.below hB3 (Ext.below hB4 (Ext.below dx (Ext.below bU bO))))) jL),iR,(Nat.le_trans (Below.size hB3) iJ),eO,dH,dM,(Nat.ne_of_gt (Nat.lt_of_lt_of_le (Ib.ext oD (Ext.below dx (Ext.below bU bO))).1 jL))⟩)
         · refine bP rfl rfl rfl rfl (fun _ k=>Ext.below bS k) ?_
           intro N6 w7 bO iL qY
           have bE:=Ext.below bS bO
           refine Pl.af ?_
           refine Pl.aZ [(false,5,6175),(false,6,6207),(true,7,6271),(true,8,6399),(true,9,6655),(true,10,7167)] 8191 3 Pl.az (by kernel_rfl) (by kernel_rfl) (by kernel_rfl) ?_
           have gz:=Un.below jo bO
           refine Pl.ah rfl rfl rfl rfl rfl jm ?_
           refine Calls.mono (dL _ false _ (limbs (1*2^k)) gz (by rw [Nat.one_mul];exact Nat.le_trans (dQ (M:=40) (by omega)) (by decide)) _ (aI _) ((2:Int)^k) (eD k)) ?_
           rintro e w8 ⟨jN,rfl,iX,bF⟩
           have bD:=Ext.below bE bF
           refine ⟨_,rfl,bD,?_⟩
           have gJ:Sz ((2:Int)^k) 40:=Sz.two (by omega)
           have dI:=Zn.below ha (Ext.below hB1 (Ext.below hB2 (Ext.below hB3 (Ext.below hB4 (Ext.below dx (Ext.below bU (Ext.below bO bF)))))))
           refine Pl.ah rfl rfl rfl rfl rfl gy ?_
           refine Calls.mono (bZ _ _ _ a ((2:Int)^k) dI iX (Sz.le hl (by decide)) (Sz.le gJ (by decide)) (aS k) (shl a (-((k:Nat):Int))) _ (bX a k).symm rfl) ?_
           rintro e w9 ⟨⟨bG,bV,rfl,dH,dM⟩,bW⟩
           have bK:=Ext.below bD bW
           refine ⟨_,rfl,bK,?_⟩
           have gB:Sz (a/((2:Int)^k)) 100:=Sz.div hl
           have gQ:Sz (a%((2:Int)^k)) 40:=Sz.mod gJ (aS k)
           refine Pl.bN bK rfl rfl rfl rfl rfl ?_
           refine Pl.ak bK rfl rfl rfl rfl rfl rfl ?_
           refine Pl.ak bK rfl rfl rfl rfl rfl rfl ?_
           refine Pl.ak bK rfl rfl rfl rfl rfl rfl ?_
           refine Pl.af ?_
           have fM:=Ib.ext qY (Ext.below bF bW)
           have eO:=Ib.ext oD (Ext.below dx (Ext.below bU (Ext.below bO (Ext.below bF bW))))
           exact Pl.aW [(4,.pointer (some ⟨N2,0,none⟩)),(5,.pointer (some ⟨N6,0,none⟩)),(6,.pointer (some ⟨N3,0,none⟩)),(25,bG),(26,bV),(27,(.int .i64 0))] (Pl.aa rfl (Pl.aa rfl (Pl.aa rfl (Pl.aa rfl (Pl.aa rfl (Pl.aa rfl Pl.aA)))))) (hK _ _ ⟨N6,N3,bG,bV,rfl,(Ext.below hB3 (Ext.below hB4 (Ext.below dx (Ext.below bU (Ext.below bO (Ext.below bF bW)))))),(Nat.le_trans (Below.size (Ext.below hB3 (Ext.below hB4 (Ext.below dx bU)))) iL),fM,(Nat.le_trans (Below.size hB3) iJ),eO,dH,dM,(Nat.ne_of_gt (Nat.lt_of_lt_of_le (Ib.ext oD (Ext.below dx bU)).1 iL))⟩)
       · refine bP rfl rfl rfl rfl (fun _ k=>Ext.below hS5 k) ?_
         intro N5 w6 bU iy oz
         have bS:=Ext.below hS5 bU
         refine Pl.af ?_
         refine Pl.aZ [(false,4,6159),(false,5,6175),(false,6,6207),(true,7,6271),(true,8,6399),(true,9,6655),(true,10,7167)] 8191 3 Pl.az (by kernel_rfl) (by kernel_rfl) (by kernel_rfl) ?_
         have qb:=U.below wM bU
         refine Pl.ah rfl rfl rfl rfl rfl mX ?_
         refine Calls.mono (iA _ _ 1 k (U.one qb) (by omega) (Nat.le_trans (Sz.lit (z:=1) (K:=1) (by decide) (by decide)) (by decide)) _ rfl) ?_
         rintro e w7 ⟨sG,rfl,jT,bO⟩
         have bE:=Ext.below bS bO
         refine ⟨_,rfl,bE,?_⟩
         refine Pl.ah rfl rfl rfl rfl rfl jm ?_
         refine Calls.mono (dL _ false _ (limbs (1*2^k)) jT (by rw [Nat.one_mul];exact Nat.le_trans (dQ (M:=40) (by omega)) (by decide)) _ (aI _) ((2:Int)^k) (eD k)) ?_
         rintro e w8 ⟨jN,rfl,iX,bF⟩
         have bD:=Ext.below bE bF
         refine ⟨_,rfl,bD,?_⟩
         have gJ:Sz ((2:Int)^k) 40:=Sz.two (by omega)
         have dI:=Zn.below ha (Ext.below hB1 (Ext.below hB2 (Ext.below hB3 (Ext.below hB4 (Ext.below dx (Ext.below bU (Ext.below bO bF)))))))
         refine Pl.ah rfl rfl rfl rfl rfl gy ?_
         refine Calls.mono (bZ _ _ _ a ((2:Int)^k) dI iX (Sz.le hl (by decide)) (Sz.le gJ (by decide)) (aS k) (shl a (-((k:Nat):Int))) _ (bX a k).symm rfl) ?_
         rintro e w9 ⟨⟨bG,bV,rfl,dH,dM⟩,bW⟩
         have bK:=Ext.below bD bW
         refine ⟨_,rfl,bK,?_⟩
         have gB:Sz (a/((2:Int)^k)) 100:=Sz.div hl
         have gQ:Sz (a%((2:Int)^k)) 40:=Sz.mod gJ (aS k)
         refine Pl.bN bK rfl rfl rfl rfl rfl ?_
         refine Pl.ak bK rfl rfl rfl rfl rfl rfl ?_
         refine Pl.ak bK rfl rfl rfl rfl rfl rfl ?_
         refine Pl.ak bK rfl rfl rfl rfl rfl rfl ?_
         refine Pl.af ?_
         have eG:=Ib.ext oz (Ext.below bO (Ext.below bF bW))
         have eO:=Ib.ext oD (Ext.below dx (Ext.below bU (Ext.below bO (Ext.below bF bW))))
         exact Pl.aW [(4,.pointer (some ⟨N2,0,none⟩)),(5,.pointer (some ⟨N5,0,none⟩)),(6,.pointer (some ⟨N3,0,none⟩)),(25,bG),(26,bV),(27,(.int .i64 0))] (Pl.aa rfl (Pl.aa rfl (Pl.aa rfl (Pl.aa rfl (Pl.aa rfl (Pl.aa rfl Pl.aA)))))) (hK _ _ ⟨N5,N3,bG,bV,rfl,(Ext.below hB3 (Ext.below hB4 (Ext.below dx (Ext.below bU (Ext.below bO (Ext.below bF bW)))))),(Nat.le_trans (Below.size (Ext.below hB3 (Ext.below hB4 dx))) iy),eG,(Nat.le_trans (Below.size hB3) iJ),eO,dH,dM,(Nat.ne_of_gt (Nat.lt_of_lt_of_le (Ib.ext oD dx).1 iy))⟩)
     · refine bP rfl rfl rfl rfl (fun _ k=>Ext.below dP k) ?_
       intro N4 w5 dx fE oC
       have hS5:=Ext.below dP dx
       refine Pl.af ?_
       refine Pl.aZ [(false,1,6157),(false,4,6159),(false,5,6175),(false,6,6207),(true,7,6271),(true,8,6399),(true,9,6655),(true,10,7167)] 8191 3 Pl.az (by kernel_rfl) (by kernel_rfl) (by kernel_rfl) ?_
       refine lK (n:=1) (by decide) rfl rfl rfl rfl rfl (fun _ k=>Ext.below hS5 k) ?_
       intro A5 w6 bU BM
       have bS:=Ext.below hS5 bU
       refine Pl.ah rfl rfl rfl rfl rfl mX ?_
       refine Calls.mono (iA _ _ 1 k (U.one BM) (by omega) (Nat.le_trans (Sz.lit (z:=1) (K:=1) (by decide) (by decide)) (by decide)) _ rfl) ?_
       rintro e w7 ⟨sG,rfl,jT,bO⟩
       have bE:=Ext.below bS bO
       refine ⟨_,rfl,bE,?_⟩
       refine Pl.ah rfl rfl rfl rfl rfl jm ?_
       refine Calls.mono (dL _ false _ (limbs (1*2^k)) jT (by rw [Nat.one_mul];exact Nat.le_trans (dQ (M:=40) (by omega)) (by decide)) _ (aI _) ((2:Int)^k) (eD k)) ?_
       rintro e w8 ⟨ow,rfl,jO,bF⟩
       have bD:=Ext.below bE bF
       refine ⟨_,rfl,bD,?_⟩
       have gI:Sz ((2:Int)^k) 40:=Sz.two (by omega)
       have dI:=Zn.below ha (Ext.below hB1 (Ext.below hB2 (Ext.below hB3 (Ext.below hB4 (Ext.below dx (Ext.below bU (Ext.below bO bF)))))))
       refine Pl.ah rfl rfl rfl rfl rfl gy ?_
       refine Calls.mono (bZ _ _ _ a ((2:Int)^k) dI jO (Sz.le hl (by decide)) (Sz.le gI (by decide)) (aS k) (shl a (-((k:Nat):Int))) _ (bX a k).symm rfl) ?_
       rintro e w9 ⟨⟨fK,bG,rfl,iQ,dH⟩,bW⟩
       have bK:=Ext.below bD bW
       refine ⟨_,rfl,bK,?_⟩
       have kP:Sz (a/((2:Int)^k)) 100:=Sz.div hl
       have gB:Sz (a%((2:Int)^k)) 40:=Sz.mod gI (aS k)
       refine Pl.bN bK rfl rfl rfl rfl rfl ?_
       refine Pl.ak bK rfl rfl rfl rfl rfl rfl ?_
       refine Pl.ak bK rfl rfl rfl rfl rfl rfl ?_
       refine Pl.ak bK rfl rfl rfl rfl rfl rfl ?_
       refine Pl.af ?_
       have eH:=Ib.ext oC (Ext.below bU (Ext.below bO (Ext.below bF bW)))
       have eO:=Ib.ext oD (Ext.below dx (Ext.below bU (Ext.below bO (Ext.below bF bW))))
       exact Pl.aW [(4,.pointer (some ⟨N2,0,none⟩)),(5,.pointer (some ⟨N4,0,none⟩)),(6,.pointer (some ⟨N3,0,none⟩)),(25,fK),(26,bG),(27,(.int .i64 0))] (Pl.aa rfl (Pl.aa rfl (Pl.aa rfl (Pl.aa rfl (Pl.aa rfl (Pl.aa rfl Pl.aA)))))) (hK _ _ ⟨N4,N3,fK,bG,rfl,(Ext.below hB3 (Ext.below hB4 (Ext.below dx (Ext.below bU (Ext.below bO (Ext.below bF bW)))))),(Nat.le_trans (Below.size (Ext.below hB3 hB4)) fE),eH,(Nat.le_trans (Below.size hB3) iJ),eO,iQ,dH,(Nat.ne_of_gt (Nat.lt_of_lt_of_le (oD).1 fE))⟩)
 rintro _ ZM ⟨MV,MW,DU,DV,rfl,zR,lM,wN,lN,wO,oV,uL,jq⟩
 have zS:=zR
 have lY:Sz ((2:Int)^k) 40:=Sz.two (by omega)
 have gI:Sz (a/((2:Int)^k)) 100:=Sz.div hl
 have gJ:Sz (a%((2:Int)^k)) 40:=Sz.mod lY (aS k)
 refine Pl.aZ [(false,13,8191),(false,14,16383),(true,15,32767)] 65535 0 Pl.az (by kernel_rfl) (by kernel_rfl) (by kernel_rfl) ?_
 obtain ⟨DW,DX,DY,DZ,rfl⟩:=Zn.sh oV
 refine pO rfl rfl rfl rfl rfl rfl wN (fun _ T=>T _ zS (Nat.le_trans (Below.size (Ext.refl w2)) lM)) ?_
 intro ZN wP wQ BN FO
 have FP:=wP _ zR (Nat.le_trans (Below.size (Ext.refl w2)) lM)
 have zT:=wP _ zS (Nat.le_trans (Below.size (Ext.refl w2)) lM)
 have oF:=BN _ _ _ (Ne.symm jq) wO
 have nI:=wQ _ _ oV
 have jU:=wQ _ _ uL
 obtain ⟨D5,D6,D7,D8,rfl⟩:=Zn.sh jU
 refine pO rfl rfl rfl rfl rfl rfl oF (fun _ T=>T _ zT (Nat.le_trans (Below.size (Ext.refl w2)) lN)) ?_
 intro ZO wR wS BO FQ
 have zU:=wR _ FP (Nat.le_trans (Below.size (Ext.refl w2)) lN)
 have FR:=wR _ zT (Nat.le_trans (Below.size (Ext.refl w2)) lN)
 have nJ:=wS _ _ nI
 have nK:=BO _ _ _ jq FO
 have nL:=wS _ _ jU
 refine Pl.qU FR rfl rfl rfl rfl rfl ?_
 refine Pl.af ?_
 refine Pl.tK (by kernel_rfl) ?_
 refine Pl.ay ?_
 refine Pl.aB (by kernel_rfl) ?_
 refine Pl.zh trivial rfl rfl rfl rfl rfl (Ib.load nK) ?_
 have wT:=Ib.ext i_2 zU
 refine pO rfl rfl rfl rfl rfl rfl wT (fun _ _=>trivial) ?_
 intro ZP BP wU wV FT
 have FU:=BP _ (Ext.below hB2 zU) (Nat.le_trans (Below.size (Ext.refl w1)) iB)
 have nM:=wU _ _ nJ
 have BQ:=wV _ _ _ (Nat.ne_of_gt (Nat.lt_of_lt_of_le (Ib.ext i_2 (Ext.refl w2)).1 lM)) nK
 have wW:=wU _ _ nL
 have BR:=wV _ _ _ (Nat.ne_of_gt (Nat.lt_of_lt_of_le (Ib.ext i_2 (Ext.refl w2)).1 lN)) FQ
 refine Pl.af ?_
 refine nE rfl rfl FT ?_
 exact ⟨_,rfl,nM,(Ext.below hB1 FU)⟩
theorem tL (w:World) (va:Value) (a s:Int) (ha:Zn w va a) (hl:Sz a 100) (h1 : -900≤s) (h2:s≤900) :
  Calls Tryz.prog 51 #[va,.int .i64 s] w fun e w'=>∃ u,e = .returned u∧Zn w' u (shl a s)∧Ext w w':=by
 by_cases h0:0≤s
 · exact wG w va a s ha hl h0 h1 h2
 · exact wI w va a s ha hl h0 h1 h2
end Go.Proofs.YtdpmbgomcjnohaaGreatDoor
namespace Go.Proofs.YtdpmbgomcjnohaaGreatDoor
open Go.RowKit 
set_option linter.all false
set_option maxRecDepth 100000
set_option maxHeartbeats 8000000
theorem ru {n k o i:Nat} (h:n=2^k*(2*o+1)) (hi:i≤k):tC n (i:Int)=if i=k then 1 else 0:=by
 unfold tC
 rw [if_neg (by omega),Int.toNat_natCast,h]
 obtain ⟨d,rfl⟩:∃ d,k=i+d:=⟨k-i,by omega⟩
 rw [Nat.pow_add,Nat.mul_assoc,Nat.mul_div_cancel_left _ (Nat.two_pow_pos i)]
 cases d with
 | zero=>rw [if_pos (by omega),Nat.pow_zero];omega
 | succ d=>rw [if_neg (by omega),Nat.pow_succ,Nat.mul_assoc,Nat.mul_left_comm];omega
theorem zm {m:Int} {k o:Nat} (h:m.natAbs=2^k*(2*o+1)):sg (decide (m<0)) (m.natAbs/2^k)=shl m (-(k:Int)):=by
 rw [h,Nat.mul_div_cancel_left _ (Nat.two_pow_pos k),bX]
 unfold sg
 rcases Int.natAbs_eq m with h1 | h1
 · rw [if_neg (by rw [decide_eq_true_iff];omega),h1,h,Int.natCast_mul,Int.natCast_pow]
   exact (Int.mul_ediv_cancel_left _ (Int.pow_ne_zero (by decide))).symm
 · rw [if_pos (by rw [decide_eq_true_iff];have:=Nat.two_pow_pos k;have:0<2^k*(2*o+1):=Nat.mul_pos this (by omega);omega),h1,h,Int.natCast_mul,Int.natCast_pow,← Int.mul_neg]
   exact (Int.mul_ediv_cancel_left _ (Int.pow_ne_zero (by decide))).symm
theorem jW (w:World) (vm:Value) (m ex:Int) (hm:Zn w vm m) (L:Nat) (lm:Sz m L) (hL:L≤30000) (he : -1000000000≤ex∧ex≤1000000000) (lo hi:Int) (h1:lo≤ex) (h2:ex+32*L≤hi) (h3:lo≤0) (h4:0≤hi) :
  Calls Tryz.prog 19 #[vm,.int .i64 ex] w fun e w'=>∃ u,e = .returned u∧Dn w' u (Dy.dv m ex) L lo hi∧Pl.Ex w w':=by
 obtain ⟨Am,cm,rfl,um⟩:=hm
 refine Pl.bL (n:=29) (vs:=[.agg #[.bool (decide (m<0)),.slice Am (limbs (Int.natAbs m)).length cm],.int .i64 ex]) Tryz.func19 rfl (by kernel_rfl) (by simp) ?_
 repeat refine Pl.ay ?_
 refine Pl.aB (by kernel_rfl) ?_
 refine Pl.dN (cs:=[.bool (decide (m<0)),.slice Am (limbs (Int.natAbs m)).length cm]) rfl rfl rfl rfl rfl rfl (fun Y hY=>trivial) ?_
 intro N1 w1 hE1 eP aC
 have ig:=Pl.Cb.lt aC
 have mH:=Pl.Ex.size hE1
 refine Pl.aU (z:=.agg #[.bool false,.slice none 0 0,.int .i64 0]) (by kernel_rfl) rfl rfl rfl rfl (fun Y hY=>trivial) ?_
 intro N2 w2 hE2 gD aD
 have iB:=Pl.Cb.lt aD
 have mY:=Pl.Ex.size hE2
 replace aD:Pl.Cb w2 N2 26 [.bool false,.slice none 0 0,.int .i64 0]:=aD
 refine Pl.af ?_
 repeat refine Pl.ay ?_
 refine Pl.aB (by kernel_rfl) ?_
 refine Pl.bC (.pointer (some ⟨N1,1,none⟩)) trivial rfl rfl rfl rfl (fun X=>by kernel_rfl) ?_
 refine Pl.eT (v:=.slice Am (limbs (Int.natAbs m)).length cm) Tryz.underlying22 rfl (Pl.Cb.at (j:=1) (Pl.Cb.ex aC hE2) rfl) trivial rfl rfl rfl rfl rfl ?_
 refine Pl.yG Tryz.underlying22 trivial rfl rfl rfl rfl rfl ?_
 by_cases c3:((limbs (Int.natAbs m)).length)=0
 · refine Pl.dO (v:=.bool true) (fun X=>Pl.gM (Pl.e_t (by omega)) X) trivial rfl rfl rfl rfl rfl rfl ?_
   refine Pl.af ?_
   repeat refine Pl.ay ?_
   refine Pl.iO rfl ?_
   repeat refine Pl.ay ?_
   refine Pl.aB (by kernel_rfl) ?_
   refine Pl.bC (.agg #[.bool false,.slice none 0 0,.int .i64 0]) trivial rfl rfl rfl rfl (fun X=>by kernel_rfl) ?_
   refine Pl.bg (new:=[.bool false,.slice none 0 0,.int .i64 0]) aD (by kernel_rfl) rfl (by simp [Value.oneCell']) rfl rfl rfl rfl rfl rfl (fun Y hY=>trivial) ?_
   intro w3 Fa dG
   have aO:=Pl.Ex.xs hE2 Fa (by omega)
   have mZ:=Pl.Xs.size Fa
   refine Pl.af ?_
   repeat refine Pl.ay ?_
   exact Pl.cO rfl rfl dG Tryz.underlying26 rfl (by kernel_rfl) (⟨_,rfl,by rw [show m=0 from Int.natAbs_eq_zero.1 (oO.1 c3),Dy.vM];exact Dn.zero _ L (by omega) (by omega),(Pl.Ex.trans hE1 aO)⟩)
 · refine Pl.dO (v:=.bool false) (fun X=>Pl.gM (Pl.e_f (by omega)) X) trivial rfl rfl rfl rfl rfl rfl ?_
   refine Pl.af ?_
   repeat refine Pl.ay ?_
   refine Pl.gm rfl ?_
   repeat refine Pl.ay ?_
   refine Pl.iK ?_
   repeat refine Pl.ay ?_
   refine Pl.aB (by kernel_rfl) ?_
   have hm0:m.natAbs≠0:=fun h9=>c3 (oO.2 h9)
   obtain ⟨k,o,hko⟩:=xE m.natAbs hm0
   have Qy:k<32*L:=BS hko (by have:=zW lm;rw [Nat.pow_mul];exact this)
   refine Pl.aG trivial rfl ?_
   refine Pl.af ?_
   repeat refine Pl.ay ?_
   refine Pl.rF ?_
   repeat refine Pl.ay ?_
   refine Pl.jv [(1,.int .i64 ex),(2,.pointer (some ⟨N1,0,none⟩)),(4,.pointer (some ⟨N2,0,none⟩)),(5,.int .i64 0)] (Pl.aa rfl (Pl.aa rfl (Pl.aa rfl (Pl.aa rfl Pl.aA)))) ?_
   repeat refine Pl.ay ?_
   refine Pl.Da (fun kq l' w'=>∃ i,(k-i)=kq∧Pl.Ex w2 w'∧(i≤k)∧l'=[(1,.int .i64 ex),(2,.pointer (some ⟨N1,0,none⟩)),(4,.pointer (some ⟨N2,0,none⟩)),(5,.int .i64 ((i:Nat):Int))]) _ ⟨0,rfl,Pl.Ex.refl _,(Nat.zero_le _),rfl⟩ ?_
   rintro kq _ w3 ⟨i,hk3,aO,hik,rfl⟩
   have mZ:=Pl.Ex.size aO
   repeat refine Pl.ay ?_
   refine Pl.aB (by kernel_rfl) ?_
   refine Pl.bC (.pointer (some ⟨N1,1,none⟩)) trivial rfl rfl rfl rfl (fun X=>by kernel_rfl) ?_
   refine Pl.eT (v:=.slice Am (limbs (Int.natAbs m)).length cm) Tryz.underlying22 rfl (Pl.Cb.at (j:=1) (Pl.Cb.ex aC (Pl.Ex.trans hE2 aO)) rfl) trivial rfl rfl rfl rfl rfl ?_
   refine Pl.aG trivial rfl ?_
   refine Pl.ah rfl rfl rfl rfl rfl (fun u X=>Pl.enters Tryz.func56 (by kernel_rfl) rfl u X) ?_
   refine Calls.mono (BF _ _ (Int.natAbs m) (i:Int) (Un.below um (Pl.Ex.trans hE1 (Pl.Ex.trans hE2 aO))) (by omega) (by omega) _ rfl) ?_
   rintro e w4 ⟨rfl,aR⟩
   have l9:=Pl.Ex.size aR
   refine ⟨_,rfl,trivial,?_⟩
   by_cases c4:(tC (Int.natAbs m) (i:Int))=0
   · refine Pl.dO (v:=.bool true) (fun X=>Pl.gM (Pl.e_t (by omega)) X) trivial rfl rfl rfl rfl rfl rfl ?_
     refine Pl.af ?_
     repeat refine Pl.ay ?_
     refine Pl.iO rfl ?_
     repeat refine Pl.ay ?_
     refine Pl.iK ?_
     repeat refine Pl.ay ?_
     refine Pl.rF ?_
     repeat refine Pl.ay ?_
     refine Pl.aB (by kernel_rfl) ?_
     have hlt:i<k:=by have:=ru hko hik;have h9:=c4;rw [this] at h9;split at h9<;>omega
     refine Pl.aG trivial rfl ?_
     refine Pl.dO (v:=.int .i64 (((i+1):Nat):Int)) (fun X=>sM (a:=i) (b:=1) (by omega) X) trivial rfl rfl rfl rfl rfl rfl ?_
     refine Pl.aG trivial rfl ?_
     refine Pl.af ?_
     refine Pl.uu ?_
     repeat refine Pl.ay ?_
     refine Pl.zX (k':=(k-(i+1))) [(1,.int .i64 ex),(2,.pointer (some ⟨N1,0,none⟩)),(4,.pointer (some ⟨N2,0,none⟩)),(5,.int .i64 (((i+1):Nat):Int))] (Pl.aa rfl (Pl.aa rfl (Pl.aa rfl (Pl.aa rfl Pl.aA)))) (by omega) ⟨(i+1),rfl,(Pl.Ex.trans aO aR),(by omega),rfl⟩
   · refine Pl.dO (v:=.bool false) (fun X=>Pl.gM (Pl.e_f (by omega)) X) trivial rfl rfl rfl rfl rfl rfl ?_
     refine Pl.af ?_
     repeat refine Pl.ay ?_
     refine Pl.gm rfl ?_
     repeat refine Pl.ay ?_
     refine Pl.Db ?_
     repeat refine Pl.ay ?_
     refine Pl.fJ (S:=fun X=>Pl.Ex w1 X) [(true,0,0),(true,1,1),(true,2,3),(true,3,7),(true,4,15),(true,7,31),(true,8,159),(true,9,415),(false,5,927),(false,6,959),(true,10,1023),(false,11,2047)] fo Pl.az (by kernel_rfl) (Pl.Ex.trans (Pl.Ex.trans hE2 (Pl.Ex.trans aO aR)) (Pl.Ex.drew _)) ?_
     have aP:=Pl.Ex.drew w4
     generalize w4.drew=w5 at *
     have jY:=Pl.Ex.size aP
     intro hS5
     have heq:i=k:=by have:=ru hko hik;have h9:=c4;rw [this] at h9;split at h9<;>omega
     refine Pl.bC (.pointer (some ⟨N1,0,none⟩)) hS5 rfl rfl rfl rfl (fun X=>by kernel_rfl) ?_
     refine Pl.iE (v:=.bool (decide (m<0))) Tryz.underlying4 rfl (fun X hX=>Pl.Cb.at (j:=0) (Pl.Cb.ex aC hX) rfl) hS5 rfl rfl rfl rfl rfl ?_
     refine Pl.bC (.pointer (some ⟨N1,1,none⟩)) hS5 rfl rfl rfl rfl (fun X=>by kernel_rfl) ?_
     refine Pl.iE (v:=.slice Am (limbs (Int.natAbs m)).length cm) Tryz.underlying22 rfl (fun X hX=>Pl.Cb.at (j:=1) (Pl.Cb.ex aC hX) rfl) hS5 rfl rfl rfl rfl rfl ?_
     refine Pl.aG hS5 rfl ?_
     refine Pl.dO (v:=.int .i64 (ex+((i:Nat):Int))) (fun X=>xG (by omega) X) hS5 rfl rfl rfl rfl rfl rfl ?_
     refine Pl.ah rfl rfl rfl rfl rfl (fun u X=>Pl.enters Tryz.func66 (by kernel_rfl) rfl u X) ?_
     refine Calls.mono (zk _ _ (Int.natAbs m) i (Un.below um (Pl.Ex.trans hE1 (Pl.Ex.trans hE2 (Pl.Ex.trans aO (Pl.Ex.trans aR aP))))) (by omega) (Nat.le_trans lm (by omega)) _ rfl) ?_
     rintro e w6 ⟨vh,rfl,VJ,aM⟩
     have jr:=Pl.Ex.size aM
     have bS:=Pl.Ex.trans hS5 aM
     refine ⟨_,rfl,bS,?_⟩
     refine Pl.ah rfl rfl rfl rfl rfl (fun u X=>Pl.enters Tryz.func62 (by kernel_rfl) rfl u X) ?_
     refine Calls.mono (dL _ (decide (m<0)) _ _ VJ (Nat.le_trans (Sn.down lm (Nat.div_le_self _ _)) (by omega)) _ (aI _) (shl m (-(i:Int))) (by rw [heq];exact zm hko)) ?_
     rintro e w7 ⟨vz,rfl,VK,aH⟩
     obtain ⟨Az,cz,rfl,uz⟩:=VK
     have iU:=Pl.Ex.size aH
     have bE:=Pl.Ex.trans bS aH
     refine ⟨_,rfl,bE,?_⟩
     refine Pl.bC (.agg #[.bool (decide ((shl m (-(i:Int)))<0)),.slice Az (limbs (Int.natAbs (shl m (-(i:Int))))).length cz,.int .i64 (ex+((i:Nat):Int))]) bE rfl rfl rfl rfl (fun X=>by kernel_rfl) ?_
     refine Pl.bg (new:=[.bool (decide ((shl m (-(i:Int)))<0)),.slice Az (limbs (Int.natAbs (shl m (-(i:Int))))).length cz,.int .i64 (ex+((i:Nat):Int))]) (Pl.Cb.ex aD (Pl.Ex.trans aO (Pl.Ex.trans aR (Pl.Ex.trans aP (Pl.Ex.trans aM aH))))) (by kernel_rfl) rfl (by simp [Value.oneCell']) rfl rfl rfl rfl rfl rfl (fun Y hY=>Pl.Ex.xs bE hY (by omega)) ?_
     intro w8 eX dG
     have bu:=Pl.Ex.xs (Pl.Ex.trans hE2 (Pl.Ex.trans aO (Pl.Ex.trans aR (Pl.Ex.trans aP (Pl.Ex.trans aM aH))))) eX (by omega)
     have mh:=Pl.Xs.size eX
     have bD:=Pl.Ex.xs bE eX (by omega)
     refine Pl.af ?_
     have k5:=Un.xs uz eX (Pl.Cb.ex aD (Pl.Ex.trans aO (Pl.Ex.trans aR (Pl.Ex.trans aP (Pl.Ex.trans aM aH))))) (by simp)
     repeat refine Pl.ay ?_
     exact Pl.cO rfl rfl dG Tryz.underlying26 rfl (by kernel_rfl) (⟨_,rfl,Dn.mk k5 (tO (heq ▸ hko)).1 (tO (heq ▸ hko)).2 (zY lm (by omega)) (by omega) (by omega),(Pl.Ex.trans hE1 bu)⟩)
theorem rR {n:Int} (h:0≤n):((shl 1 n:Int):Rat)=2^n:=by
 rw [F4 h];unfold Dy.dv;exact Rat.one_mul _
theorem xQ {n:Int} (h:n≤0):Rat.divInt 1 (shl 1 (-n))=2^n:=by
 rw [Rat.divInt_eq_div,rR (show 0 ≤ -n by omega)]
 have h1:=Dy.EM n
 have h2:=Dy.KD (-n)
 show (1:Rat)/2^(-n)=2^n
 grind
theorem rC (w:World) (n:Int) (J:Nat) (hJ:J≤28) (h1 : -(32*(J:Int))≤n) (h2:n≤32*(J:Int)) :
  Calls Tryz.prog 78 #[.int .i64 n] w fun e w'=>∃ u,e = .returned u∧Qn w' u ((2:Rat)^n) (J+1) (J+1)∧Pl.Ex w w':=by
 refine Pl.bL (n:=21) (vs:=[.int .i64 n]) Tryz.func78 rfl (by kernel_rfl) (by simp) ?_
 repeat refine Pl.ay ?_
 refine Pl.aB (by kernel_rfl) ?_
 refine Pl.aU (z:=.agg #[.bool false,.slice none 0 0,.slice none 0 0]) (by kernel_rfl) rfl rfl rfl rfl (fun Y hY=>trivial) ?_
 intro N1 w1 hE1 eP aC
 have ig:=Pl.Cb.lt aC
 have mH:=Pl.Ex.size hE1
 replace aC:Pl.Cb w1 N1 41 [.bool false,.slice none 0 0,.slice none 0 0]:=aC
 refine Pl.af ?_
 repeat refine Pl.ay ?_
 refine Pl.aB (by kernel_rfl) ?_
 refine Pl.aG trivial rfl ?_
 by_cases c2:n≥0
 · refine Pl.dO (v:=.bool true) (fun X=>sU c2 X) trivial rfl rfl rfl rfl rfl rfl ?_
   refine Pl.af ?_
   repeat refine Pl.ay ?_
   refine Pl.iO rfl ?_
   repeat refine Pl.ay ?_
   refine Pl.aB (by kernel_rfl) ?_
   refine Pl.ah rfl rfl rfl rfl rfl (fun u X=>Pl.enters Tryz.func53 (by kernel_rfl) rfl u X) ?_
   refine Calls.mono (Bg _ 1 (by decide) (by decide)) ?_
   rintro e w2 ⟨v3,rfl,hv3,hE2⟩
   obtain ⟨A4,c5,rfl,u6⟩:=hv3
   have mY:=Pl.Ex.size hE2
   refine ⟨_,rfl,trivial,?_⟩
   refine Pl.aG trivial rfl ?_
   refine Pl.ah rfl rfl rfl rfl rfl (fun u X=>Pl.enters Tryz.func51 (by kernel_rfl) rfl u X) ?_
   refine Calls.mono (tL _ _ 1 n (Zn.of u6) (Sz.le (Sz.lit (K:=1) (by decide) (by decide)) (by decide)) (by omega) (by omega)) ?_
   rintro e w3 ⟨v7,rfl,hv7,aO⟩
   obtain ⟨A8,c9,rfl,rW⟩:=hv7
   have mZ:=Pl.Ex.size aO
   refine ⟨_,rfl,trivial,?_⟩
   refine Pl.ah rfl rfl rfl rfl rfl (fun u X=>Pl.enters Tryz.func82 (by kernel_rfl) rfl u X) ?_
   refine Calls.mono (jg _ _ (shl 1 n) (1+J) (Zn.of rW) (qP (j:=J) (Sz.lit (K:=1) (by decide) (by decide)) (by omega) (Nat.le_refl _))) ?_
   rintro e w4 ⟨v11,rfl,kL,aR⟩
   obtain ⟨CK,c13,qK,c15,rfl,u16,xA,xN,yj⟩:=kL
   have l9:=Pl.Ex.size aR
   refine ⟨_,rfl,trivial,?_⟩
   refine Pl.bg (new:=[.bool (decide ((Rat.num (((shl 1 n):Int):Rat))<0)),.slice CK (limbs (Int.natAbs (Rat.num (((shl 1 n):Int):Rat)))).length c13,.slice qK (limbs (Rat.den (((shl 1 n):Int):Rat))).length c15]) (Pl.Cb.ex aC (Pl.Ex.trans hE2 (Pl.Ex.trans aO aR))) (by kernel_rfl) rfl (by simp [Value.oneCell']) rfl rfl rfl rfl rfl rfl (fun Y hY=>trivial) ?_
   intro w5 kF lF
   have aP:=Pl.Ex.xs (Pl.Ex.trans hE1 (Pl.Ex.trans hE2 (Pl.Ex.trans aO aR))) kF (by omega)
   have jY:=Pl.Xs.size kF
   refine Pl.af ?_
   have k19:=Un.xs u16 kF (Pl.Cb.ex aC (Pl.Ex.trans hE2 (Pl.Ex.trans aO aR))) (by simp)
   have k20:=Un.xs xA kF (Pl.Cb.ex aC (Pl.Ex.trans hE2 (Pl.Ex.trans aO aR))) (by simp)
   repeat refine Pl.ay ?_
   exact Pl.cO rfl rfl lF Tryz.underlying41 rfl (by kernel_rfl) (⟨_,rfl,Qn.le (by rw [← rR (show 0≤n by omega)];exact (Qn.mk k19 k20 xN yj)) (by omega) (by omega),aP⟩)
 · refine Pl.dO (v:=.bool false) (fun X=>vF c2 X) trivial rfl rfl rfl rfl rfl rfl ?_
   refine Pl.af ?_
   repeat refine Pl.ay ?_
   refine Pl.gm rfl ?_
   repeat refine Pl.ay ?_
   refine Pl.iK ?_
   repeat refine Pl.ay ?_
   refine Pl.aB (by kernel_rfl) ?_
   refine Pl.ah rfl rfl rfl rfl rfl (fun u X=>Pl.enters Tryz.func53 (by kernel_rfl) rfl u X) ?_
   refine Calls.mono (Bg _ 1 (by decide) (by decide)) ?_
   rintro e w2 ⟨v3,rfl,hv3,hE2⟩
   obtain ⟨A4,c5,rfl,u6⟩:=hv3
   have mY:=Pl.Ex.size hE2
   refine ⟨_,rfl,trivial,?_⟩
   refine Pl.ah rfl rfl rfl rfl rfl (fun u X=>Pl.enters Tryz.func53 (by kernel_rfl) rfl u X) ?_
   refine Calls.mono (Bg _ 1 (by decide) (by decide)) ?_
   rintro e w3 ⟨v7,rfl,hv7,aO⟩
   obtain ⟨A8,c9,rfl,rW⟩:=hv7
   have mZ:=Pl.Ex.size aO
   refine ⟨_,rfl,trivial,?_⟩
   refine Pl.aG trivial rfl ?_
   refine Pl.mK (v:=.int .i64 (-n)) trivial rfl rfl rfl rfl rfl (fun X=>uA (by omega) X) ?_
   refine Pl.ah rfl rfl rfl rfl rfl (fun u X=>Pl.enters Tryz.func51 (by kernel_rfl) rfl u X) ?_
   refine Calls.mono (tL _ _ 1 (-n) (Zn.of rW) (Sz.le (Sz.lit (K:=1) (by decide) (by decide)) (by decide)) (by omega) (by omega)) ?_
   rintro e w4 ⟨v11,rfl,kL,aR⟩
   obtain ⟨CK,c13,rfl,JF⟩:=kL
   have l9:=Pl.Ex.size aR
   refine ⟨_,rfl,trivial,?_⟩
   refine Pl.ah rfl rfl rfl rfl rfl (fun u X=>Pl.enters Tryz.func97 (by kernel_rfl) rfl u X) ?_
   refine Calls.mono (oH _ _ _ 1 (shl 1 (-n)) (Zn.of (Un.below u6 (Pl.Ex.trans aO aR))) (Zn.of JF) 1 (1+J) (Sz.lit (by decide) (by decide)) (qP (j:=J) (Sz.lit (K:=1) (by decide) (by decide)) (by omega) (Nat.le_refl _)) (by omega) (by omega) (by have:=Dy.Eb (m:=1) (s := -n) (by decide) (by omega);exact Int.ne_of_gt this)) ?_
   rintro e w5 ⟨vq,rfl,zJ,aP⟩
   obtain ⟨A1,c1,A2,c2,rfl,u1,u2,z1,z2⟩:=zJ
   have jY:=Pl.Ex.size aP
   refine ⟨_,rfl,trivial,?_⟩
   refine Pl.aG trivial rfl ?_
   refine Pl.aU (z:=.agg #[.bool false,.slice none 0 0,.slice none 0 0]) (by kernel_rfl) rfl rfl rfl rfl (fun Y hY=>trivial) ?_
   intro QV w6 aM KE lC
   have O0:=Pl.Cb.lt lC
   have jr:=Pl.Ex.size aM
   replace lC:Pl.Cb w6 QV 41 [.bool false,.slice none 0 0,.slice none 0 0]:=lC
   refine Pl.bg (new:=[.bool (decide ((Rat.num (Rat.divInt 1 (shl 1 (-n))))<0)),.slice A1 (limbs (Int.natAbs (Rat.num (Rat.divInt 1 (shl 1 (-n)))))).length c1,.slice A2 (limbs (Rat.den (Rat.divInt 1 (shl 1 (-n))))).length c2]) lC (by kernel_rfl) rfl (by simp [Value.oneCell']) rfl rfl rfl rfl rfl rfl (fun Y hY=>trivial) ?_
   intro w7 gP sO
   have aH:=Pl.Ex.xs aM gP (by omega)
   have iU:=Pl.Xs.size gP
   refine Pl.aG trivial rfl ?_
   refine Pl.af ?_
   repeat refine Pl.ay ?_
   refine Pl.aB (by kernel_rfl) ?_
   refine Pl.dJ (part:=[.bool (decide ((Rat.num (Rat.divInt 1 (shl 1 (-n))))<0)),.slice A1 (limbs (Int.natAbs (Rat.num (Rat.divInt 1 (shl 1 (-n)))))).length c1,.slice A2 (limbs (Rat.den (Rat.divInt 1 (shl 1 (-n))))).length c2]) sO rfl Tryz.underlying41 rfl (by kernel_rfl) trivial rfl rfl rfl rfl rfl ?_
   refine Pl.bg (new:=[.bool (decide ((Rat.num (Rat.divInt 1 (shl 1 (-n))))<0)),.slice A1 (limbs (Int.natAbs (Rat.num (Rat.divInt 1 (shl 1 (-n)))))).length c1,.slice A2 (limbs (Rat.den (Rat.divInt 1 (shl 1 (-n))))).length c2]) (Pl.Cb.ex aC (Pl.Ex.trans hE2 (Pl.Ex.trans aO (Pl.Ex.trans aR (Pl.Ex.trans aP aH))))) (by kernel_rfl) rfl (by simp [Value.oneCell']) rfl rfl rfl rfl rfl rfl (fun Y hY=>trivial) ?_
   intro w8 eX lF
   have bu:=Pl.Ex.xs (Pl.Ex.trans hE1 (Pl.Ex.trans hE2 (Pl.Ex.trans aO (Pl.Ex.trans aR (Pl.Ex.trans aP aH))))) eX (by omega)
   have mh:=Pl.Xs.size eX
   have Nc:=Pl.Cb.xs sO eX (by simp;omega)
   refine Pl.af ?_
   have k16:=Un.xs (Un.below u1 aH) eX (Pl.Cb.ex aC (Pl.Ex.trans hE2 (Pl.Ex.trans aO (Pl.Ex.trans aR (Pl.Ex.trans aP aH))))) (by simp)
   have k17:=Un.xs (Un.below u2 aH) eX (Pl.Cb.ex aC (Pl.Ex.trans hE2 (Pl.Ex.trans aO (Pl.Ex.trans aR (Pl.Ex.trans aP aH))))) (by simp)
   repeat refine Pl.ay ?_
   exact Pl.cO rfl rfl lF Tryz.underlying41 rfl (by kernel_rfl) (⟨_,rfl,Qn.le (by rw [← xQ (show n≤0 by omega)];exact (Qn.mk k16 k17 z1 z2)) (by omega) (by omega),bu⟩)
theorem jQ (w:World) (va:Value) (x:Rat) (L J:Nat) (lo hi:Int) (ha:Dn w va x L lo hi) (hL:L+J+1≤100) (hJ:J≤28) (h1 : -(32*(J:Int))≤lo) (h2:hi≤32*(J:Int)) :
  Calls Tryz.prog 36 #[va] w fun e w'=>∃ u,e = .returned u∧Qn w' u x (L+J+1) (J+2)∧Pl.Ex w w':=by
 obtain ⟨ma,ea,Aa,ca,rfl,ua,da⟩:=ha
 have CF:=da.lo
 have CG:=da.hi
 refine Pl.bL (n:=10) (vs:=[.agg #[.bool (decide (ma<0)),.slice Aa (limbs (Int.natAbs ma)).length ca,.int .i64 ea]]) Tryz.func36 rfl (by kernel_rfl) (by simp) ?_
 repeat refine Pl.ay ?_
 refine Pl.aB (by kernel_rfl) ?_
 refine Pl.dN (cs:=[.bool (decide (ma<0)),.slice Aa (limbs (Int.natAbs ma)).length ca,.int .i64 ea]) rfl rfl rfl rfl rfl rfl (fun Y hY=>trivial) ?_
 intro N1 w1 hE1 eP aC
 have ig:=Pl.Cb.lt aC
 have mH:=Pl.Ex.size hE1
 refine Pl.aU (z:=.agg #[.bool false,.slice none 0 0,.slice none 0 0]) (by kernel_rfl) rfl rfl rfl rfl (fun Y hY=>trivial) ?_
 intro N2 w2 hE2 gD aD
 have iB:=Pl.Cb.lt aD
 have mY:=Pl.Ex.size hE2
 replace aD:Pl.Cb w2 N2 41 [.bool false,.slice none 0 0,.slice none 0 0]:=aD
 refine Pl.af ?_
 repeat refine Pl.ay ?_
 refine Pl.fJ (S:=fun X=>Pl.Ex w1 X) [(true,0,0),(true,1,1),(true,3,3),(true,4,11),(false,2,27),(false,5,31),(false,6,63),(false,7,127)] fo Pl.az (by kernel_rfl) (Pl.Ex.trans hE2 (Pl.Ex.drew _)) ?_
 have aO:=Pl.Ex.drew w2
 generalize w2.drew=w3 at *
 have mZ:=Pl.Ex.size aO
 intro eY
 refine Pl.bC (.pointer (some ⟨N1,0,none⟩)) eY rfl rfl rfl rfl (fun X=>by kernel_rfl) ?_
 refine Pl.bT (part:=[.bool (decide (ma<0)),.slice Aa (limbs (Int.natAbs ma)).length ca]) (fun X hX=>Pl.Cb.ex aC hX) rfl Tryz.underlying24 rfl (by kernel_rfl) eY rfl rfl rfl rfl rfl ?_
 refine Pl.bC (.pointer (some ⟨N1,2,none⟩)) eY rfl rfl rfl rfl (fun X=>by kernel_rfl) ?_
 refine Pl.iE (v:=.int .i64 ea) Tryz.underlying3 rfl (fun X hX=>Pl.Cb.at (j:=2) (Pl.Cb.ex aC hX) rfl) eY rfl rfl rfl rfl rfl ?_
 refine Pl.ah rfl rfl rfl rfl rfl (fun u X=>Pl.enters Tryz.func82 (by kernel_rfl) rfl u X) ?_
 refine Calls.mono (jg _ _ ma L (Zn.of (Un.below ua (Pl.Ex.trans hE1 (Pl.Ex.trans hE2 aO)))) da.sz) ?_
 rintro e w4 ⟨v3,rfl,hv3,aR⟩
 obtain ⟨A4,c5,A6,c7,rfl,u8,u9,vH,vI⟩:=hv3
 have l9:=Pl.Ex.size aR
 have dP:=Pl.Ex.trans eY aR
 refine ⟨_,rfl,dP,?_⟩
 refine Pl.ah rfl rfl rfl rfl rfl (fun u X=>Pl.enters Tryz.func78 (by kernel_rfl) rfl u X) ?_
 refine Calls.mono (rC _ ea J (by omega) (by omega) (by omega)) ?_
 rintro e w5 ⟨v11,rfl,kL,aP⟩
 obtain ⟨CK,c13,qK,c15,rfl,u16,xA,xN,yj⟩:=kL
 have jY:=Pl.Ex.size aP
 have hS5:=Pl.Ex.trans dP aP
 refine ⟨_,rfl,hS5,?_⟩
 refine Pl.ah rfl rfl rfl rfl rfl (fun u X=>Pl.enters Tryz.func48 (by kernel_rfl) rfl u X) ?_
 refine Calls.mono (og _ _ _ ((ma:Int):Rat) ((2:Rat)^ea) L 1 (J+1) (J+1) (Qn.mk (Un.below u8 aP) (Un.below u9 aP) vH vI) (Qn.mk u16 xA xN yj) (L+(J+1)) (1+(J+1)) (by omega) (by omega) (by omega) (by omega)) ?_
 rintro e w6 ⟨v19,rfl,Dl,aM⟩
 obtain ⟨TE,c21,Ut,c23,rfl,u24,u25,Nh,Ni⟩:=Dl
 have jr:=Pl.Ex.size aM
 have bS:=Pl.Ex.trans hS5 aM
 refine ⟨_,rfl,bS,?_⟩
 refine Pl.bg (new:=[.bool (decide ((Rat.num (((ma:Int):Rat)*((2:Rat)^ea)))<0)),.slice TE (limbs (Int.natAbs (Rat.num (((ma:Int):Rat)*((2:Rat)^ea))))).length c21,.slice Ut (limbs (Rat.den (((ma:Int):Rat)*((2:Rat)^ea)))).length c23]) (Pl.Cb.ex aD (Pl.Ex.trans aO (Pl.Ex.trans aR (Pl.Ex.trans aP aM)))) (by kernel_rfl) rfl (by simp [Value.oneCell']) rfl rfl rfl rfl rfl rfl (fun Y hY=>Pl.Ex.xs bS hY (by omega)) ?_
 intro w7 gP dG
 have aH:=Pl.Ex.xs (Pl.Ex.trans hE2 (Pl.Ex.trans aO (Pl.Ex.trans aR (Pl.Ex.trans aP aM)))) gP (by omega)
 have iU:=Pl.Xs.size gP
 have bE:=Pl.Ex.xs bS gP (by omega)
 refine Pl.af ?_
 have k27:=Un.xs u24 gP (Pl.Cb.ex aD (Pl.Ex.trans aO (Pl.Ex.trans aR (Pl.Ex.trans aP aM)))) (by simp)
 have k28:=Un.xs u25 gP (Pl.Cb.ex aD (Pl.Ex.trans aO (Pl.Ex.trans aR (Pl.Ex.trans aP aM)))) (by simp)
 repeat refine Pl.ay ?_
 exact Pl.cO rfl rfl dG Tryz.underlying41 rfl (by kernel_rfl) (⟨_,rfl,Qn.le (by rw [← da.val];exact (Qn.mk k27 k28 Nh Ni)) (by omega) (by omega),(Pl.Ex.trans hE1 aH)⟩)
end Go.Proofs.YtdpmbgomcjnohaaGreatDoor
namespace Go.Proofs.YtdpmbgomcjnohaaGreatDoor
open Go.RowKit 
set_option linter.all false
set_option maxRecDepth 100000
set_option maxHeartbeats 8000000
theorem qc {w:World} {v:Value} {xs:List Nat} {b:Bool} (h:U w v xs) (k:Nat):Sz (sg b (gN xs k)) k:=by
 show (limbs (sg b (gN xs k)).natAbs).length≤k
 rw [yt];exact kW xs k h.lim
end Go.Proofs.YtdpmbgomcjnohaaGreatDoor
namespace Go.Proofs.YtdpmbgomcjnohaaGreatDoor
open Go.RowKit 
set_option linter.all false
set_option maxRecDepth 100000
set_option maxHeartbeats 8000000
theorem WX (m n:Int):Dy.cut 4 (Dy.dv (shl m 1+1) (-n-1)) n=Dy.dv (if m%2=0 then m else m+1) (-n):=by
 have h:shl m 1=m*2:=by have:=vL m 1;rw [Int.pow_one] at this;exact this
 unfold Dy.cut
 rw [h,Dy.ties]
theorem Pb (m:Int):tC m.natAbs 0=m.natAbs%2:=by unfold tC;simp
theorem alg {m n:Int} (h:tC m.natAbs 0=1):Dy.cut 4 (Dy.dv (shl m 1+1) (-n-1)) n=Dy.dv (m+1) (-n):=by
 rw [Pb] at h;rw [WX,if_neg (by omega)]
theorem alh {m n:Int} (h:¬ tC m.natAbs 0=1):Dy.cut 4 (Dy.dv (shl m 1+1) (-n-1)) n=Dy.dv m (-n):=by
 rw [Pb] at h;rw [WX,if_pos (by omega)]
theorem LU (w:World) (hg:Gt w) (Ur:Bool) (Am:Option Addr) (cm:Nat) (OE:List Nat) (hum:U w (.slice Am OE.length cm) OE) (kK:Nat) (acM:kK<65536) :
  Calls Tryz.prog 9 #[.agg #[.bool Ur,.slice Am OE.length cm],.int .u16 ((kK:Nat):Int)] w fun e w'=>e = .returned (.bool true)∧Pl.Ex w w':=by
 obtain ⟨m,ZQ⟩:∃ z,sg Ur (gN OE 6)=z:=⟨_,rfl⟩
 have lm:Sz m 6:=by rw [← ZQ];exact qc hum 6
 refine Pl.bL (n:=54) (vs:=[.agg #[.bool Ur,.slice Am OE.length cm],.int .u16 ((kK:Nat):Int)]) Tryz.func9 rfl (by kernel_rfl) (by simp) ?_
 repeat refine Pl.ay ?_
 refine Pl.aB (by kernel_rfl) ?_
 refine Pl.dN (cs:=[.bool Ur,.slice Am OE.length cm]) rfl rfl rfl rfl rfl rfl (fun Y hY=>trivial) ?_
 intro N1 w1 hE1 eP aC
 have ig:=Pl.Cb.lt aC
 have mH:=Pl.Ex.size hE1
 refine Pl.aG trivial rfl ?_
 refine Pl.af ?_
 repeat refine Pl.ay ?_
 refine Pl.aB (by kernel_rfl) ?_
 refine Pl.ah rfl rfl rfl rfl rfl (fun u X=>Pl.enters Tryz.func12 (by kernel_rfl) rfl u X) ?_
 refine Calls.mono (sH _ (hg.ext hE1)) ?_
 rintro e w2 ⟨rfl,hE2⟩
 have mY:=Pl.Ex.size hE2
 refine ⟨_,rfl,trivial,?_⟩
 refine Pl.aG trivial rfl ?_
 refine Pl.af ?_
 repeat refine Pl.ay ?_
 refine Pl.aB (by kernel_rfl) ?_
 refine Pl.dJ (part:=[.bool Ur,.slice Am OE.length cm]) (Pl.Cb.ex aC hE2) rfl Tryz.underlying24 rfl (by kernel_rfl) trivial rfl rfl rfl rfl rfl ?_
 refine Pl.ah rfl rfl rfl rfl rfl (fun u X=>Pl.enters Tryz.func16 (by kernel_rfl) rfl u X) ?_
 refine Calls.mono (oU _ _ _ _ (Ri.below (⟨_,_,rfl,hum⟩:Ri w _ Ur OE) (Pl.Ex.trans hE1 hE2)) 6 _ rfl (by omega) _ rfl) ?_
 rintro e w3 ⟨v2,rfl,hv2,aO⟩
 rw [ZQ] at hv2
 obtain ⟨A3,c4,rfl,u5⟩:=hv2
 have mZ:=Pl.Ex.size aO
 refine ⟨_,rfl,trivial,?_⟩
 refine Pl.bg (new:=[.bool (decide (m<0)),.slice A3 (limbs (Int.natAbs m)).length c4]) (Pl.Cb.ex aC (Pl.Ex.trans hE2 aO)) (by kernel_rfl) rfl (by simp [Value.oneCell']) rfl rfl rfl rfl rfl rfl (fun Y hY=>trivial) ?_
 intro w4 yH lF
 have aR:=Pl.Ex.xs (Pl.Ex.trans hE1 (Pl.Ex.trans hE2 aO)) yH (by omega)
 have l9:=Pl.Xs.size yH
 refine Pl.af ?_
 repeat refine Pl.ay ?_
 refine Pl.aB (by kernel_rfl) ?_
 refine Pl.aG trivial rfl ?_
 refine Pl.zi (c:=((kK:Nat):Int)) Tryz.underlying3 (by kernel_rfl) (Pl.MX (a:=kK) rfl (Pl.Jg (by omega) (by omega))) trivial rfl rfl rfl rfl rfl ?_
 refine Pl.dO (v:=.int .i64 (((kK%401):Nat):Int)) (fun X=>jR (a:=kK) (b:=401) (by omega) (by omega) X) trivial rfl rfl rfl rfl rfl rfl ?_
 refine Pl.dO (v:=.int .i64 ((((kK%401):Nat):Int)-200)) (fun X=>rO (by omega) X) trivial rfl rfl rfl rfl rfl rfl ?_
 refine Pl.aG trivial rfl ?_
 refine Pl.af ?_
 repeat refine Pl.ay ?_
 refine Pl.aB (by kernel_rfl) ?_
 refine Pl.dJ (part:=[.bool (decide (m<0)),.slice A3 (limbs (Int.natAbs m)).length c4]) lF rfl Tryz.underlying24 rfl (by kernel_rfl) trivial rfl rfl rfl rfl rfl ?_
 have k10:=Un.xs u5 yH (Pl.Cb.ex aC (Pl.Ex.trans hE2 aO)) (by simp)
 refine Pl.ah rfl rfl rfl rfl rfl (fun u X=>Pl.enters Tryz.func51 (by kernel_rfl) rfl u X) ?_
 refine Calls.mono (tL _ _ m 1 (Zn.of k10) (Sz.le lm (by decide)) (by omega) (by omega)) ?_
 rintro e w5 ⟨v6,rfl,hv6,aP⟩
 obtain ⟨A7,c8,rfl,u9⟩:=hv6
 have jY:=Pl.Ex.size aP
 refine ⟨_,rfl,trivial,?_⟩
 refine Pl.ah rfl rfl rfl rfl rfl (fun u X=>Pl.enters Tryz.func53 (by kernel_rfl) rfl u X) ?_
 refine Calls.mono (Bg _ 1 (by decide) (by decide)) ?_
 rintro e w6 ⟨v11,rfl,kL,aM⟩
 obtain ⟨CK,c13,rfl,JF⟩:=kL
 have jr:=Pl.Ex.size aM
 refine ⟨_,rfl,trivial,?_⟩
 refine Pl.ah rfl rfl rfl rfl rfl (fun u X=>Pl.enters Tryz.func55 (by kernel_rfl) rfl u X) ?_
 refine Calls.mono (IC _ _ _ (shl m 1) 1 (Zn.of (Un.below u9 aM)) (Zn.of JF) (Sz.le (qP (j:=1) lm (by omega) (by omega):Sz (shl m 1) 7) (by decide)) (Sz.le (Sz.lit (K:=1) (by decide) (by decide)) (by decide)) _ rfl) ?_
 rintro e w7 ⟨v15,rfl,Hf,aH⟩
 obtain ⟨A16,c17,rfl,OG⟩:=Hf
 have iU:=Pl.Ex.size aH
 refine ⟨_,rfl,trivial,?_⟩
 refine Pl.aG trivial rfl ?_
 refine Pl.mK (v:=.int .i64 (-((((kK%401):Nat):Int)-200))) trivial rfl rfl rfl rfl rfl (fun X=>uA (by omega) X) ?_
 refine Pl.dO (v:=.int .i64 ((-((((kK%401):Nat):Int)-200))-1)) (fun X=>rO (by omega) X) trivial rfl rfl rfl rfl rfl rfl ?_
 refine Pl.ah rfl rfl rfl rfl rfl (fun u X=>Pl.enters Tryz.func19 (by kernel_rfl) rfl u X) ?_
 refine Calls.mono (jW _ _ ((shl m 1)+1) ((-((((kK%401):Nat):Int)-200))-1) (Zn.of OG) 8 (Sz.add (qP (j:=1) lm (by omega) (by omega):Sz (shl m 1) 7) (Sz.lit (K:=1) (by decide) (by decide)) (by decide) (by decide):Sz ((shl m 1)+1) 8) (by omega) (by omega) (-201) 455 (by omega) (by omega) (by omega) (by omega)) ?_
 rintro e w8 ⟨v19,rfl,Dl,bu⟩
 obtain ⟨m20,e21,Ut,c23,rfl,u24,Kn⟩:=Dl
 have afY:=Kn.lo
 have afZ:=Kn.hi
 have mh:=Pl.Ex.size bu
 refine ⟨_,rfl,trivial,?_⟩
 refine Pl.ah rfl rfl rfl rfl rfl (fun u X=>Pl.enters Tryz.func36 (by kernel_rfl) rfl u X) ?_
 refine Calls.mono (jQ _ _ (Dy.dv ((shl m 1)+1) ((-((((kK%401):Nat):Int)-200))-1)) 8 15 _ _ (Dn.mk u24 Kn.can Kn.val Kn.sz Kn.lo Kn.hi) (by omega) (by omega) (by omega) (by omega)) ?_
 rintro e w9 ⟨v26,rfl,ac5,dh⟩
 obtain ⟨A27,c28,A29,c30,rfl,u31,u32,ac6,ac7⟩:=ac5
 have pG:=Pl.Ex.size dh
 refine ⟨_,rfl,trivial,?_⟩
 refine Pl.aU (z:=.agg #[.bool false,.slice none 0 0,.slice none 0 0]) (by kernel_rfl) rfl rfl rfl rfl (fun Y hY=>trivial) ?_
 intro N34 qD bf ali Gg
 have aoB:=Pl.Cb.lt Gg
 have mD:=Pl.Ex.size bf
 replace Gg:Pl.Cb qD N34 41 [.bool false,.slice none 0 0,.slice none 0 0]:=Gg
 refine Pl.bg (new:=[.bool (decide ((Rat.num (Dy.dv ((shl m 1)+1) ((-((((kK%401):Nat):Int)-200))-1)))<0)),.slice A27 (limbs (Int.natAbs (Rat.num (Dy.dv ((shl m 1)+1) ((-((((kK%401):Nat):Int)-200))-1))))).length c28,.slice A29 (limbs (Rat.den (Dy.dv ((shl m 1)+1) ((-((((kK%401):Nat):Int)-200))-1)))).length c30]) Gg (by kernel_rfl) rfl (by simp [Value.oneCell']) rfl rfl rfl rfl rfl rfl (fun Y hY=>trivial) ?_
 intro uV jI aaj
 have bI:=Pl.Ex.xs bf jI (by omega)
 have qx:=Pl.Xs.size jI
 refine Pl.af ?_
 repeat refine Pl.ay ?_
 refine Pl.aB (by kernel_rfl) ?_
 refine Pl.dJ (part:=[.bool (decide ((Rat.num (Dy.dv ((shl m 1)+1) ((-((((kK%401):Nat):Int)-200))-1)))<0)),.slice A27 (limbs (Int.natAbs (Rat.num (Dy.dv ((shl m 1)+1) ((-((((kK%401):Nat):Int)-200))-1))))).length c28,.slice A29 (limbs (Rat.den (Dy.dv ((shl m 1)+1) ((-((((kK%401):Nat):Int)-200))-1)))).length c30]) aaj rfl Tryz.underlying41 rfl (by kernel_rfl) trivial rfl rfl rfl rfl rfl ?_
 refine Pl.aG trivial rfl ?_
 refine Pl.ah rfl rfl rfl rfl rfl (fun u X=>Pl.enters Tryz.func39 (by kernel_rfl) rfl u X) ?_
 refine Calls.mono (oh _ (hg.ext (Pl.Ex.trans aR (Pl.Ex.trans aP (Pl.Ex.trans aM (Pl.Ex.trans aH (Pl.Ex.trans bu (Pl.Ex.trans dh bI))))))) _ (Dy.dv ((shl m 1)+1) ((-((((kK%401):Nat):Int)-200))-1)) ((((kK%401):Nat):Int)-200) 4 (by decide) 24 17 7 (Qn.mk (Un.below u31 bI) (Un.below u32 bI) ac6 ac7) (by decide) (by omega) (-200) 1224 (by omega) (by omega) (by decide) (by decide)) ?_
 rintro e yu ⟨v35,rfl,VL,bY⟩
 obtain ⟨WY,e37,A38,c39,rfl,u40,Ms⟩:=VL
 have alj:=Ms.lo
 have alk:=Ms.hi
 have qQ:=Pl.Ex.size bY
 refine ⟨_,rfl,trivial,?_⟩
 refine Pl.aG trivial rfl ?_
 refine Pl.aU (z:=.agg #[.bool false,.slice none 0 0,.int .i64 0]) (by kernel_rfl) rfl rfl rfl rfl (fun Y hY=>trivial) ?_
 intro N42 yM bM ad2 xZ
 have agC:=Pl.Cb.lt xZ
 have rE:=Pl.Ex.size bM
 replace xZ:Pl.Cb yM N42 26 [.bool false,.slice none 0 0,.int .i64 0]:=xZ
 refine Pl.bg (new:=[.bool (decide (WY<0)),.slice A38 (limbs (Int.natAbs WY)).length c39,.int .i64 e37]) xZ (by kernel_rfl) rfl (by simp [Value.oneCell']) rfl rfl rfl rfl rfl rfl (fun Y hY=>trivial) ?_
 intro FV vG JJ
 have ed:=Pl.Ex.xs bM vG (by omega)
 have zK:=Pl.Xs.size vG
 refine Pl.aG trivial rfl ?_
 refine Pl.af ?_
 repeat refine Pl.ay ?_
 refine Pl.aB (by kernel_rfl) ?_
 refine Pl.dJ (part:=[.bool (decide (m<0)),.slice A3 (limbs (Int.natAbs m)).length c4]) (Pl.Cb.ex lF (Pl.Ex.trans aP (Pl.Ex.trans aM (Pl.Ex.trans aH (Pl.Ex.trans bu (Pl.Ex.trans dh (Pl.Ex.trans bI (Pl.Ex.trans bY ed)))))))) rfl Tryz.underlying24 rfl (by kernel_rfl) trivial rfl rfl rfl rfl rfl ?_
 refine Pl.aU (z:=.agg #[.bool false,.slice none 0 0]) (by kernel_rfl) rfl rfl rfl rfl (fun Y hY=>trivial) ?_
 intro N43 IA dK aln Gh
 have aoC:=Pl.Cb.lt Gh
 have Cz:=Pl.Ex.size dK
 replace Gh:Pl.Cb IA N43 24 [.bool false,.slice none 0 0]:=Gh
 refine Pl.bg (new:=[.bool (decide (m<0)),.slice A3 (limbs (Int.natAbs m)).length c4]) Gh (by kernel_rfl) rfl (by simp [Value.oneCell']) rfl rfl rfl rfl rfl rfl (fun Y hY=>trivial) ?_
 intro w16 Uw Nn
 have dW:=Pl.Ex.xs dK Uw (by omega)
 have LA:=Pl.Xs.size Uw
 refine Pl.af ?_
 repeat refine Pl.ay ?_
 refine Pl.aB (by kernel_rfl) ?_
 refine Pl.bC (.pointer (some ⟨N1,1,none⟩)) trivial rfl rfl rfl rfl (fun X=>by kernel_rfl) ?_
 refine Pl.eT (v:=.slice A3 (limbs (Int.natAbs m)).length c4) Tryz.underlying22 rfl (Pl.Cb.at (j:=1) (Pl.Cb.ex lF (Pl.Ex.trans aP (Pl.Ex.trans aM (Pl.Ex.trans aH (Pl.Ex.trans bu (Pl.Ex.trans dh (Pl.Ex.trans bI (Pl.Ex.trans bY (Pl.Ex.trans ed dW))))))))) rfl) trivial rfl rfl rfl rfl rfl ?_
 have Z5:=Un.xs (Un.below k10 (Pl.Ex.trans aP (Pl.Ex.trans aM (Pl.Ex.trans aH (Pl.Ex.trans bu (Pl.Ex.trans dh bf)))))) jI Gg (by simp)
 have Z6:=Un.xs (Un.below Z5 (Pl.Ex.trans bY bM)) vG xZ (by simp)
 have k46:=Un.xs (Un.below Z6 dK) Uw Gh (by simp)
 refine Pl.ah rfl rfl rfl rfl rfl (fun u X=>Pl.enters Tryz.func56 (by kernel_rfl) rfl u X) ?_
 refine Calls.mono (BF _ _ (Int.natAbs m) 0 k46 (by decide) (by decide) _ rfl) ?_
 rintro e Oa ⟨rfl,eu⟩
 have LC:=Pl.Ex.size eu
 refine ⟨_,rfl,trivial,?_⟩
 by_cases c47:(tC (Int.natAbs m) 0)=1
 · refine Pl.dO (v:=.bool true) (fun X=>Pl.gM (Pl.e_t (by omega)) X) trivial rfl rfl rfl rfl rfl rfl ?_
   refine Pl.af ?_
   repeat refine Pl.ay ?_
   refine Pl.iO rfl ?_
   repeat refine Pl.ay ?_
   refine Pl.fJ (S:=fun X=>Pl.Ex FV X) [(true,0,0),(false,1,1),(false,2,3),(false,3,7)] fo Pl.az (by kernel_rfl) (Pl.Ex.trans (Pl.Ex.trans dW eu) (Pl.Ex.drew _)) ?_
   have dZ:=Pl.Ex.drew Oa
   generalize Oa.drew=OH at *
   have J6:=Pl.Ex.size dZ
   intro uk
   refine Pl.bT (part:=[.bool (decide (m<0)),.slice A3 (limbs (Int.natAbs m)).length c4]) (fun X hX=>Pl.Cb.ex (Pl.Cb.ex lF (Pl.Ex.trans aP (Pl.Ex.trans aM (Pl.Ex.trans aH (Pl.Ex.trans bu (Pl.Ex.trans dh (Pl.Ex.trans bI (Pl.Ex.trans bY ed)))))))) hX) rfl Tryz.underlying24 rfl (by kernel_rfl) uk rfl rfl rfl rfl rfl ?_
   refine Pl.ah rfl rfl rfl rfl rfl (fun u X=>Pl.enters Tryz.func53 (by kernel_rfl) rfl u X) ?_
   refine Calls.mono (Bg _ 1 (by decide) (by decide)) ?_
   rintro e Vd ⟨v48,rfl,ad3,fu⟩
   obtain ⟨A49,c50,rfl,u51⟩:=ad3
   have J7:=Pl.Ex.size fu
   have sV:=Pl.Ex.trans uk fu
   refine ⟨_,rfl,sV,?_⟩
   refine Pl.ah rfl rfl rfl rfl rfl (fun u X=>Pl.enters Tryz.func55 (by kernel_rfl) rfl u X) ?_
   refine Calls.mono (IC _ _ _ m 1 (Zn.of (Un.below k46 (Pl.Ex.trans eu (Pl.Ex.trans dZ fu)))) (Zn.of u51) (Sz.le lm (by decide)) (Sz.le (Sz.lit (K:=1) (by decide) (by decide)) (by decide)) _ rfl) ?_
   rintro e Y5 ⟨v52,rfl,alp,hE20⟩
   obtain ⟨A53,c54,rfl,u55⟩:=alp
   have LD:=Pl.Ex.size hE20
   have uP:=Pl.Ex.trans sV hE20
   refine ⟨_,rfl,uP,?_⟩
   refine Pl.bg (new:=[.bool (decide ((m+1)<0)),.slice A53 (limbs (Int.natAbs (m+1))).length c54]) (Pl.Cb.ex Nn (Pl.Ex.trans eu (Pl.Ex.trans dZ (Pl.Ex.trans fu hE20)))) (by kernel_rfl) rfl (by simp [Value.oneCell']) rfl rfl rfl rfl rfl rfl (fun Y hY=>Pl.Ex.xs uP hY (by omega)) ?_
   intro Vg aak aal
   have fT:=Pl.Ex.xs (Pl.Ex.trans dW (Pl.Ex.trans eu (Pl.Ex.trans dZ (Pl.Ex.trans fu hE20)))) aak (by omega)
   have OI:=Pl.Xs.size aak
   have qL:=Pl.Ex.xs uP aak (by omega)
   refine Pl.af ?_
   repeat refine Pl.ay ?_
   refine Pl.fJ (S:=fun X=>Pl.Ex Vg X) [(true,0,0),(true,1,1),(true,2,3),(true,3,7),(true,4,15),(true,5,31),(true,6,63),(false,7,127),(false,8,255),(true,9,511),(true,10,1023),(true,11,2047),(true,12,4095),(true,13,8191)] fo Pl.az (by kernel_rfl) (Pl.Ex.trans (Pl.Ex.refl _) (Pl.Ex.drew _)) ?_
   have gF:=Pl.Ex.drew Vg
   generalize Vg.drew=w22 at *
   have OJ:=Pl.Ex.size gF
   intro vY
   refine Pl.aG vY rfl ?_
   refine Pl.dO (v:=.bool true) (fun X=>Pl.gM (Pl.e_t (by omega)) X) vY rfl rfl rfl rfl rfl rfl ?_
   refine Pl.aG vY rfl ?_
   refine Pl.bT (part:=[.bool (decide (WY<0)),.slice A38 (limbs (Int.natAbs WY)).length c39,.int .i64 e37]) (fun X hX=>Pl.Cb.ex (Pl.Cb.ex JJ fT) hX) rfl Tryz.underlying26 rfl (by kernel_rfl) vY rfl rfl rfl rfl rfl ?_
   refine Pl.bT (part:=[.bool (decide ((m+1)<0)),.slice A53 (limbs (Int.natAbs (m+1))).length c54]) (fun X hX=>Pl.Cb.ex aal hX) rfl Tryz.underlying24 rfl (by kernel_rfl) vY rfl rfl rfl rfl rfl ?_
   refine Pl.aG vY rfl ?_
   refine Pl.mK (v:=.int .i64 (-((((kK%401):Nat):Int)-200))) vY rfl rfl rfl rfl rfl (fun X=>uA (by omega) X) ?_
   have k63:=Un.xs u55 aak (Pl.Cb.ex Nn (Pl.Ex.trans eu (Pl.Ex.trans dZ (Pl.Ex.trans fu hE20)))) (by simp)
   refine Pl.ah rfl rfl rfl rfl rfl (fun u X=>Pl.enters Tryz.func19 (by kernel_rfl) rfl u X) ?_
   refine Calls.mono (jW _ _ (m+1) (-((((kK%401):Nat):Int)-200)) (Zn.of (Un.below k63 gF)) 7 (Sz.add lm (Sz.lit (K:=1) (by decide) (by decide)) (by decide) (by decide):Sz (m+1) 7) (by omega) (by omega) (-200) 424 (by omega) (by omega) (by omega) (by omega)) ?_
   rintro e ZY ⟨v56,rfl,alq,iH⟩
   obtain ⟨m57,e58,A59,c60,rfl,u61,d62⟩:=alq
   have asz:=d62.lo
   have asA:=d62.hi
   have OL:=Pl.Ex.size iH
   have xm:=Pl.Ex.trans vY iH
   refine ⟨_,rfl,xm,?_⟩
   refine Pl.ah rfl rfl rfl rfl rfl (fun u X=>Pl.enters Tryz.func17 (by kernel_rfl) rfl u X) ?_
   refine Calls.mono (dR _ _ _ (Dy.cut 4 (Dy.dv ((shl m 1)+1) ((-((((kK%401):Nat):Int)-200))-1)) ((((kK%401):Nat):Int)-200)) (Dy.dv (m+1) (-((((kK%401):Nat):Int)-200))) _ _ _ _ _ _ (Dn.mk (Un.below u40 (Pl.Ex.trans ed (Pl.Ex.trans fT (Pl.Ex.trans gF iH)))) Ms.can Ms.val Ms.sz Ms.lo Ms.hi) (Dn.mk u61 d62.can d62.val d62.sz d62.lo d62.hi) (by decide) (by decide)) ?_
   rintro e ZZ ⟨rfl,gY⟩
   rw [decide_eq_true (show (Dy.cut 4 (Dy.dv ((shl m 1)+1) ((-((((kK%401):Nat):Int)-200))-1)) ((((kK%401):Nat):Int)-200))=(Dy.dv (m+1) (-((((kK%401):Nat):Int)-200))) from (alg c47))]
   have OM:=Pl.Ex.size gY
   have Bd:=Pl.Ex.trans xm gY
   refine ⟨_,rfl,Bd,?_⟩
   refine Pl.aG Bd rfl ?_
   refine Pl.af ?_
   repeat refine Pl.ay ?_
   exact Pl.dU rfl rfl  (⟨rfl,(Pl.Ex.trans aR (Pl.Ex.trans aP (Pl.Ex.trans aM (Pl.Ex.trans aH (Pl.Ex.trans bu (Pl.Ex.trans dh (Pl.Ex.trans bI (Pl.Ex.trans bY (Pl.Ex.trans ed (Pl.Ex.trans fT (Pl.Ex.trans gF (Pl.Ex.trans iH gY))))))))))))⟩)
 · refine Pl.dO (v:=.bool false) (fun X=>Pl.gM (Pl.e_f (by omega)) X) trivial rfl rfl rfl rfl rfl rfl ?_
   refine Pl.af ?_
   repeat refine Pl.ay ?_
   refine Pl.gm rfl ?_
   repeat refine Pl.ay ?_
   refine Pl.iK ?_
   repeat refine Pl.ay ?_
   refine Pl.fJ (S:=fun X=>Pl.Ex Oa X) [(true,0,0),(true,1,1),(true,2,3),(true,3,7),(true,4,15),(true,5,31),(true,6,63),(false,7,127),(false,8,255),(true,9,511),(true,10,1023),(true,11,2047),(true,12,4095),(true,13,8191)] fo Pl.az (by kernel_rfl) (Pl.Ex.trans (Pl.Ex.refl _) (Pl.Ex.drew _)) ?_
   have dZ:=Pl.Ex.drew Oa
   generalize Oa.drew=OH at *
   have J6:=Pl.Ex.size dZ
   intro uk
   refine Pl.aG uk rfl ?_
   refine Pl.dO (v:=.bool true) (fun X=>Pl.gM (Pl.e_t (by omega)) X) uk rfl rfl rfl rfl rfl rfl ?_
   refine Pl.aG uk rfl ?_
   refine Pl.bT (part:=[.bool (decide (WY<0)),.slice A38 (limbs (Int.natAbs WY)).length c39,.int .i64 e37]) (fun X hX=>Pl.Cb.ex (Pl.Cb.ex JJ (Pl.Ex.trans dW eu)) hX) rfl Tryz.underlying26 rfl (by kernel_rfl) uk rfl rfl rfl rfl rfl ?_
   refine Pl.bT (part:=[.bool (decide (m<0)),.slice A3 (limbs (Int.natAbs m)).length c4]) (fun X hX=>Pl.Cb.ex (Pl.Cb.ex Nn eu) hX) rfl Tryz.underlying24 rfl (by kernel_rfl) uk rfl rfl rfl rfl rfl ?_
   refine Pl.aG uk rfl ?_
   refine Pl.mK (v:=.int .i64 (-((((kK%401):Nat):Int)-200))) uk rfl rfl rfl rfl rfl (fun X=>uA (by omega) X) ?_
   refine Pl.ah rfl rfl rfl rfl rfl (fun u X=>Pl.enters Tryz.func19 (by kernel_rfl) rfl u X) ?_
   refine Calls.mono (jW _ _ m (-((((kK%401):Nat):Int)-200)) (Zn.of (Un.below k46 (Pl.Ex.trans eu dZ))) 6 lm (by omega) (by omega) (-200) 392 (by omega) (by omega) (by omega) (by omega)) ?_
   rintro e Vd ⟨v48,rfl,ad3,fu⟩
   obtain ⟨m49,e50,A51,c52,rfl,u53,d54⟩:=ad3
   have asB:=d54.lo
   have asC:=d54.hi
   have J7:=Pl.Ex.size fu
   have sV:=Pl.Ex.trans uk fu
   refine ⟨_,rfl,sV,?_⟩
   refine Pl.ah rfl rfl rfl rfl rfl (fun u X=>Pl.enters Tryz.func17 (by kernel_rfl) rfl u X) ?_
   refine Calls.mono (dR _ _ _ (Dy.cut 4 (Dy.dv ((shl m 1)+1) ((-((((kK%401):Nat):Int)-200))-1)) ((((kK%401):Nat):Int)-200)) (Dy.dv m (-((((kK%401):Nat):Int)-200))) _ _ _ _ _ _ (Dn.mk (Un.below u40 (Pl.Ex.trans ed (Pl.Ex.trans dW (Pl.Ex.trans eu (Pl.Ex.trans dZ fu))))) Ms.can Ms.val Ms.sz Ms.lo Ms.hi) (Dn.mk u53 d54.can d54.val d54.sz d54.lo d54.hi) (by decide) (by decide)) ?_
   rintro e Y5 ⟨rfl,hE20⟩
   rw [decide_eq_true (show (Dy.cut 4 (Dy.dv ((shl m 1)+1) ((-((((kK%401):Nat):Int)-200))-1)) ((((kK%401):Nat):Int)-200))=(Dy.dv m (-((((kK%401):Nat):Int)-200))) from (alh c47))]
   have LD:=Pl.Ex.size hE20
   have uP:=Pl.Ex.trans sV hE20
   refine ⟨_,rfl,uP,?_⟩
   refine Pl.aG uP rfl ?_
   refine Pl.af ?_
   repeat refine Pl.ay ?_
   exact Pl.dU rfl rfl  (⟨rfl,(Pl.Ex.trans aR (Pl.Ex.trans aP (Pl.Ex.trans aM (Pl.Ex.trans aH (Pl.Ex.trans bu (Pl.Ex.trans dh (Pl.Ex.trans bI (Pl.Ex.trans bY (Pl.Ex.trans ed (Pl.Ex.trans dW (Pl.Ex.trans eu (Pl.Ex.trans dZ (Pl.Ex.trans fu hE20)))))))))))))⟩)
end Go.Proofs.YtdpmbgomcjnohaaGreatDoor
namespace Go.Proofs.YtdpmbgomcjnohaaGreatDoor
open Go.ChangeShapes Go.WideShapes Go.ChangeAt Go.RowKit
set_option linter.all false
set_option maxRecDepth 100000
set_option maxHeartbeats 8000000
theorem vo:Tryz.prog.cellsOf 24 = 2:=by kernel_rfl
theorem uo:Tryz.prog.cellsOf 22 = 1:=by kernel_rfl
theorem vw {H:Type} {enc:TypeId × Value→H} {W:World} {m:Nat} {c0 c1:Value} {y:DataW H × List MemPlace} (h:DataW.trod enc Tryz.prog W 0 (fun _=>true) true m 24 [c0,c1]=some y) :
  ∃ (s:Bool) (A:Option Addr) (c:Nat) (xs:List Nat),c0 = .bool s∧c1 = .slice A xs.length c∧U W (.slice A xs.length c) xs:=by
 obtain ⟨ys,n,_,rfl,hl,hlen,hf⟩:=DataW.trod_struct Tryz.underlying24 h
 match ys,hlen,hf with
 | [y0,y1],_,hf =>
  have h0:=hf 0 _ rfl
  have h1:=hf 1 _ rfl
  have cb:Tryz.prog.cellsOf 4 = 1:=by kernel_rfl
  simp [uo,cb] at h0 h1
  obtain ⟨s,e0,_⟩:=DataW.trod_bool Tryz.underlying4 h0
  obtain ⟨xs,u⟩:=kJ h1
  obtain ⟨A,c,rfl,hu⟩:=id u
  simp at e0
  exact ⟨s,A,c,xs,e0,rfl,u⟩
theorem M3 {H:Type} {enc:TypeId × Value→H} {W:World} {base:Nat} {v:Value} {d:DataW H} {ps:List MemPlace} (hval:Value.okWide Tryz.prog W .any base 24 v) (h:DataW.Trod enc Tryz.prog W 0 (fun _=>true) true 24 v d ps) :
  ∃ (s:Bool) (A:Option Addr) (c:Nat) (xs:List Nat),v = .agg #[.bool s,.slice A xs.length c]∧U W (.slice A xs.length c) xs:=by
 obtain ⟨cs,rfl,hsz⟩:=okWide_struct Tryz.underlying24 hval
 rw [vo] at hsz
 obtain ⟨l⟩:=cs
 match l,hsz with
 | [c0,c1],_ =>
  obtain ⟨fuel,hf⟩:=h
  obtain ⟨s,A,c,xs,rfl,rfl,u⟩:=vw hf
  exact ⟨s,A,c,xs,rfl,u⟩
end Go.Proofs.YtdpmbgomcjnohaaGreatDoor
namespace Go.Proofs.YtdpmbgomcjnohaaGreatDoor
open Go.ChangeShapes Go.WideShapes Go.ChangeAt Go.RowKit
set_option linter.all false
set_option maxRecDepth 100000
set_option maxHeartbeats 8000000
abbrev jM:List (String × DataW Unit):=[("math/bits.deBruijn32tab",Rows.laid_math_bits_deBruijn32tab),("ziggurat/ntt.fields",Rows.laid_ziggurat_ntt_fields)]
theorem qE (os:Os) (args:Array Value):laidMetH Tryz.prog jM ((World.laidAll Tryz.prog os jM).forCall (fun _ _=>0) ⟨#[],args,[]⟩).memory:=by
 rw [MakeChecks.laidMetH_plain _ _ _ (by kernel_rfl)]
 exact laidMet_laidAll _ (by kernel_rfl) (by kernel_rfl)
theorem Qu:Tryz.prog.globalNamed "math/bits.deBruijn32tab" = some 0:=by kernel_rfl
theorem Qv:(Tryz.prog.globals[0]?).map (·.type)=some 121 := by kernel_rfl
theorem vS:Tryz.prog.cellsOf 5 = 1:=by kernel_rfl
theorem sJ:Tryz.prog.cellsOf 121 = 32:=by kernel_rfl
theorem nk {W:World} (h:laidMetH Tryz.prog jM W):Gt W:=by
 rw [MakeChecks.laidMetH_plain _ _ _ (by kernel_rfl)] at h
 obtain ⟨ps,⟨g0,t0,cs0,f0,p0,q0,hg0,ht0,hv0,hd0,_,_⟩,_⟩:=h
 obtain rfl:=Option.some.inj (Qu.symm.trans hg0)
 obtain rfl:=Option.some.inj (Qv.symm.trans ht0)
 obtain ⟨xs,m1,rfl,hx1,hlen,Y4,hel⟩:=DataW.trod_array Tryz.underlying121 hd0
 rw [sJ] at hlen
 simp only [vS] at hel
 obtain ⟨l⟩:=cs0
 rw [Prod.mk.injEq] at hx1
 have hx2:DataW.agg (AQ.map fun n=>DataW.lit (Lit.int .u8 ((n:Nat):Int)))=DataW.agg (xs.map (·.1)):=hx1.1
 rw [DataW.agg.injEq] at hx2
 have hc:=fun k=>World.var?_cell hg0 hv0 k
 have hall:∀ i,i<32→W.cell? ⟨0,i,none⟩=some (.int .u8 ((lb AQ i:Nat):Int)):=by
  intro i hi
  have e:=hel i hi
  have hxi:i<xs.length:=by omega
  have J8:i<l.length:=by have:l.length=32:=hlen;omega
  have hdi:i<AQ.length:=hi
  rw [List.getElem?_eq_getElem hxi,Nat.mul_one,List.drop_eq_getElem_cons J8] at e
  simp only [List.take_succ_cons,List.take_zero] at e
  obtain ⟨a,e0,hy,_⟩:=DataW.trod_int Tryz.underlying5 e
  have h1:=congrArg (fun q=>q[i]?) hx2
  simp only [List.getElem?_map,List.getElem?_eq_getElem hxi,List.getElem?_eq_getElem hdi,Option.map_some,Option.some.injEq,hy,DataW.lit.injEq,Lit.int.injEq,true_and] at h1
  have h2:lb AQ i=AQ[i]:=by unfold lb;rw [List.getElem?_eq_getElem hdi];rfl
  rw [h2,h1]
  have h3:=hc i
  simp only [List.cons.injEq,and_true] at e0
  rw [← e0]
  exact h3.trans (by simp [J8])
 exact ⟨World.block_lt_of_cell? W ⟨0,0,none⟩ (hall 0 (by decide)),hall⟩
end Go.Proofs.YtdpmbgomcjnohaaGreatDoor
namespace Go.Proofs.YtdpmbgomcjnohaaGreatDoor
open Go.ChangeShapes Go.WideShapes Go.ChangeAt Go.RowKit
set_option linter.all false
set_option maxRecDepth 100000
set_option maxHeartbeats 8000000
theorem Jp (os:Os) (started:os.Started) (H:Type) (enc:TypeId × Value→H) :
  ReturnsInHanded {} Tryz.checked os 9 .any (fun w args=>(Rows.dyadTiesSpec.pre enc Tryz.prog Tryz.f9 [] false w args∧laidMetH Tryz.prog jM w)∧sizedMet enc Tryz.prog Tryz.f9 (OpenSpec.ofChange Rows.dyadTiesSpec) false w args)
   (Rows.dyadTiesSpec.post enc Tryz.prog Tryz.f9 false true false false):=by
 refine returnsInHanded_of_change_and (C:=Tryz.checked) (X:=fun w _=>laidMetH Tryz.prog jM w) (fun _ _ _ hh h=>h.of_heap hh) own started (by kernel_rfl) Tryz.func9
  (ChangeSpec.witness_shaped (enc:=enc) (C:=Tryz.checked) (os:=os) (X:=fun w _=>laidMetH Tryz.prog jM w) false (World.laidAll Tryz.prog os jM) #[.agg #[.bool false,.slice none 0 0],.int .u16 0] 8 (World.laidAll_os _ _ _) (World.shaped_of_ZipB (by kernel_rfl) (by kernel_rfl)) (by kernel_rfl) (by kernel_rfl) (by kernel_rfl) (qE os _)) ?_
 intro W base args ds gs before hval0 hW _ _ hL _
 have hval:∀ (j:Nat) t v,Tryz.f9.params[j]?=some t→args[j]?=some v→Value.okWide Tryz.prog W .any base t v:=hval0
 have hW':=hW
 obtain ⟨p,q,D9,hV,rfl,hfz,hnd⟩:=hW
 have hA:DataW.TrodAll enc Tryz.prog W 0 (fun _=>true) true Tryz.f9.params.toList args.toList ds p:=D9
 rw [Tryz.params9] at hA hval
 clear D9 hval0
 obtain ⟨v0,vs0,d0,ds0,p0,q0,EE,rfl,rfl,h0,r0⟩:=trodAll_cons hA
 obtain ⟨v1,vs1,d1,ds1,p1,q1,vT,rfl,rfl,h1,r1⟩:=trodAll_cons r0
 obtain ⟨hn1,rfl,rfl⟩:=trodAll_nil r1
 subst hn1
 subst vT
 obtain rfl:args=#[v0,v1]:=by cases args;simp_all
 obtain ⟨rfl,rfl⟩:=trodVars_none hV
 obtain ⟨s0,A0,c0,x0,hv0,u0⟩:=M3 (hval 0 24 v0 rfl rfl) h0
 subst hv0
 obtain ⟨z1,rfl,rfl,rfl,hz1⟩:=open_int Tryz.underlying61 (hval 1 61 v1 rfl rfl) h1
 have hb1:=bounds_u16 hz1
 obtain ⟨n1,rfl⟩:=Int.eq_ofNat_of_zero_le (show 0≤z1 by omega)
 refine (LU W (nk hL) s0 A0 c0 x0 u0 n1 (by omega)).mono fun e W' ⟨he,hB⟩=>?_
 subst he
 exact ⟨_,rfl,qC hW' rfl (by rw [Tryz.params9];decide +kernel) rfl rfl rfl rfl hB⟩
theorem LV:Rows.DyadTiesSaid :=
 OpenClaim.holds_of_wide 9 Tryz.f9 rfl rfl rfl rfl rfl rfl rfl ⟨rfl,rfl,rfl,rfl,rfl⟩ rfl rfl rfl rfl rfl (by kernel_rfl) Tryz.func9 (by kernel_rfl)
  (of_decide_eq_true (by kernel_rfl)) (by unfold Func.isWrapper;first | (rw [if_pos (by decide +kernel)];kernel_rfl) | (rw [if_neg (by decide +kernel)];exact ⟨rfl,rfl⟩))
  (fun os started H enc _=>Jp os started H enc)
theorem dyadTies_holds:Rows.DyadTiesCardSaid :=
 Claim7.holds_tied_plain_at .later [] [.data,.wider] true Rows.dyadTiesCard.stood.harness false
  LV (fun _ h=>by cases h) (by kernel_rfl) (fun _ h=>by cases h) dyadTies_row_tie rfl ⟨rfl,rfl⟩ (by kernel_rfl) rfl
  (fun f fn hf hfn=>by
   obtain rfl:f = 9 := Option.some.inj ((show Tryz.prog.funcNamed "ziggurat/zigguratlaw10.DyadTies" = some 9 by kernel_rfl).symm.trans hf) |>.symm
   obtain rfl:fn=Tryz.f9 := (Option.some.inj (Tryz.func9.symm.trans hfn)).symm
   exact ⟨by kernel_rfl,fun j t ht=>by
    rw [Tryz.params9] at ht
    have hm:t∈[24,61]:=by simpa using Array.mem_of_getElem? ht
    have hall:([24,61].all fun u=>!Tryz.prog.wantsStandIn u)=true:=by kernel_rfl
    exact (show Tryz.prog.wantsStandIn t=false by simpa using List.all_eq_true.1 hall t hm)⟩)
  (by kernel_rfl)
end Go.Proofs.YtdpmbgomcjnohaaGreatDoor
