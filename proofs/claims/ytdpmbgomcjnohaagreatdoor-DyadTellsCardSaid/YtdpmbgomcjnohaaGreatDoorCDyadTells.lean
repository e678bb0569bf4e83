/- DyadTells, and what it leans on beyond the base. -/
import Derived.Test.YtdpmbgomcjnohaaGreatDoorBab
import Derived.Test.YtdpmbgomcjnohaaGreatDoorBag
import Derived.Test.YtdpmbgomcjnohaaGreatDoorBad
import Derived.Test.YtdpmbgomcjnohaaGreatDoorBaj
import Derived.Test.YtdpmbgomcjnohaaGreatDoorBai
import Derived.Test.YtdpmbgomcjnohaaGreatDoorBam
import Derived.Test.YtdpmbgomcjnohaaGreatDoorBap
import Derived.Test.YtdpmbgomcjnohaaGreatDoorBaq
import Derived.Test.YtdpmbgomcjnohaaGreatDoorBas
import Derived.Test.YtdpmbgomcjnohaaGreatDoorBar
import Derived.Test.YtdpmbgomcjnohaaGreatDoorBac
import Derived.Test.YtdpmbgomcjnohaaGreatDoorBat
import Derived.Test.YtdpmbgomcjnohaaGreatDoorBav
import Derived.Test.YtdpmbgomcjnohaaGreatDoorBau
import Derived.Test.YtdpmbgomcjnohaaGreatDoorBax
import Derived.Test.YtdpmbgomcjnohaaGreatDoorBbd
import Derived.Test.YtdpmbgomcjnohaaGreatDoorBbf
import Derived.Test.YtdpmbgomcjnohaaGreatDoorBbe
import Derived.Test.YtdpmbgomcjnohaaGreatDoorBbg
import Derived.Test.YtdpmbgomcjnohaaGreatDoorBbh
import Derived.Deep.MidRow
import Derived.Deep.WholeRow
import Derived.Laws.CopyOwn
import Derived.WalkKit
import Derived.Laws.EntriesVeiled
import Derived.Deep.AppendSrc
import Derived.Lib.AppendZeros
import Derived.Laws.IdiomStrings
import Derived.Laws.StructEq
import Derived.SevenTiedAt
import Derived.LaidMore
import Derived.Stop.Joined
import Derived.JoinedOf
import Derived.JoinedAt
import Derived.Lib.SmallJoins
import Derived.Deep.RegionHeld3
import Derived.Scope
import Derived.Lib.SlTrimSet
import Derived.Lib.Bytealg
import Derived.Laws.Concat
import Derived.Lay
import Derived.LaidOnce

namespace Go.Proofs.YtdpmbgomcjnohaaGreatDoor
theorem yW {a b c : World} (h : Pl.Ex a b) (k : Pl.Ex b c) : Pl.Ex a c := Pl.Ex.trans h k
theorem zZz {w w2 : World} {N : Nat} {T : TypeId} {cs : List Value} (h : Pl.Cb w N T cs) (k : Pl.Ex w w2) : Pl.Cb w2 N T cs := Pl.Cb.ex h k
theorem zYz {a b : World} (h : Pl.Ex a b) : a.heap.size ≤ b.heap.size := Pl.Ex.size h
end Go.Proofs.YtdpmbgomcjnohaaGreatDoor
namespace Go.Proofs.YtdpmbgomcjnohaaGreatDoor.Pl
open Go
set_option linter.all false
set_option maxRecDepth 100000
set_option maxHeartbeats 8000000
theorem w16 {z:Int} (h1:0≤z) (h2:z<65536):IntKind.u16.wrap z=z:=by
 simp only [IntKind.wrap,IntKind.signed,IntKind.bits];simp;omega
theorem w32 {z:Int} (h1:0≤z) (h2:z<4294967296):IntKind.u32.wrap z=z:=by
 simp only [IntKind.wrap,IntKind.signed,IntKind.bits];simp;omega
section
variable {P:Program} {T:TypeId} {x y:Operand} {k k':IntKind} {a b c:Int} {v:Bool}
theorem AR (h0:b≠0) (h:a.tmod b=c) (X:World):Bn P .rem T x y (.int k a) (.int k b) X = .ok (.int k c) X:=by
 subst h;simp [Bn,eqGuard,binOp,Op.intDiv,h0]
theorem Hl (h:decide (a≤b)=v) (X:World):Bn P .leq T x y (.int k a) (.int k b) X = .ok (.bool v) X:=by
 subst h;simp [Bn,eqGuard,binOp,Op.intCmp]
end
section
variable {P:Program} {L:List Oper} {S:World→Prop} {K:List (Nat × Value)→World→Prop} {k:Bool} {i m d:Nat} {o:Oper} {r:List (Bool × Nat × Nat)} {l:List (Nat × Value)} {w w':World} {v:Value}
theorem Zp {x:Operand} {t e:TypeId} {lo hi:Option Operand} {A:Option Addr} {n c lo' hi' s:Nat} {kl kh:IntKind} (hu:P.underlying t=some (.slice e)) (hs:(P.info? e).map (·.size)=some s)
  (hl:(lo=none∧lo'=0)∨(∃ q z,lo=some q∧dA l q=some (.int kl z)∧z=(lo':Int))) (hh:(hi=none∧hi'=n∧n≤c)∨(∃ q z,hi=some q∧dA l q=some (.int kh z)∧z=(hi':Int))) (h1:lo'≤hi') (h2:hi'≤c)
  (hS:S w) (ho:nth L i=some o) (hop:o.op = .slice t x lo hi none) (hd:o.dst=some d) (hg:gd L l o.guard=some true)
  (hx:dA l x=some (.slice A n c)) (h:gM P L S K r ((d,H6 A lo' hi' c s)::l) w):gM P L S K ((k,i,m)::r) l w :=
 iC hS ho hd hg (fun ρ hρ X _=>by
  unfold execOp;rw [hop]
  refine dK _ X ?_
  rw [hρ.dA hx]
  obtain ⟨inf,hi0,hz⟩:=Option.map_eq_some_iff.1 hs
  subst hz
  have g1:(0:Int)≤(lo':Int):=by omega
  have g2:(lo':Int)≤(hi':Int):=by omega
  have g3:(hi':Int)≤(c:Int):=by omega
  have g4:(0:Int)≤(hi':Int):=by omega
  have h1':lo'≤hi':=h1
  rcases hl with ⟨rfl,rfl⟩ | ⟨q,z,rfl,hq,rfl⟩<;>rcases hh with ⟨rfl,rfl,hc⟩ | ⟨q',z',rfl,hq',rfl⟩
  · simp [Instr.sliceAt,Instr.slice,run_underlying hu,Instr.sliceBounds,run_sliceBound,sizeOf,typeInfo,hi0,Result.andThen,H6]
  · simp [Instr.sliceAt,Instr.slice,run_underlying hu,Instr.sliceBounds,run_sliceBound,sizeOf,typeInfo,hi0,Result.andThen,H6,hρ.dA hq',g3,h2]
  · simp [Instr.sliceAt,Instr.slice,run_underlying hu,Instr.sliceBounds,run_sliceBound,sizeOf,typeInfo,hi0,Result.andThen,H6,hρ.dA hq,h1]
  · simp [Instr.sliceAt,Instr.slice,run_underlying hu,Instr.sliceBounds,run_sliceBound,sizeOf,typeInfo,hi0,Result.andThen,H6,hρ.dA hq,hρ.dA hq',h1,h2]) h
end
end Go.Proofs.YtdpmbgomcjnohaaGreatDoor.Pl
namespace Go.Proofs.YtdpmbgomcjnohaaGreatDoor.Pl
open Go Go.RowKit
set_option linter.all false
set_option maxRecDepth 100000
set_option maxHeartbeats 8000000
theorem Xs.H7 {w w':World} {g:Nat} (h:w.grownBy w' (some g)):Xs [g] w w':=⟨h.os,h.tape,h.output,h.size,fun k hk hn=>h.block k hk (by simpa using hn)⟩
end Go.Proofs.YtdpmbgomcjnohaaGreatDoor.Pl
namespace Go.Proofs.YtdpmbgomcjnohaaGreatDoor
open Pl
open Go.ChangeShapes Go.WideShapes Go.ChangeAt Go.RowKit
set_option linter.all false
set_option maxRecDepth 100000
set_option maxHeartbeats 8000000
theorem laidOut:laidOutB Tryz.prog=true:=by kernel_rfl
theorem wM:Tryz.prog.cellsOf 67 = 1:=by kernel_rfl
theorem gU {H:Type} {enc:TypeId × Value→H} {W W':World} {sp:Nat→Bool} (hB:Ext W W'):∀ {ts:List TypeId} {vs:List Value} {ds:List (DataW H)} {ps:List MemPlace},
  (∀ t∈ts,Tryz.prog.readableRec t=true∧t<Tryz.prog.types.size)→DataW.TrodAll enc Tryz.prog W 0 (fun _=>true) true ts vs ds ps→(∀ p∈ps,p.block<W.heap.size)→(∀ p∈ps,sp p.block=true)→DataW.TrodAll enc Tryz.prog W' 0 sp true ts vs ds ps
 | [],[],[],_,_,h,_,_=>h
 | t::_,_::_,_::_,_,hT,⟨p,q,h1,h2,e⟩,hlt,hs=>⟨p,q,
  WideElems.Trod_stays laidOut (hT t (List.mem_cons_self ..)).1 (hT t (List.mem_cons_self ..)).2 h1 (fun x hx=>Below.same hB (hlt x (by rw [e];exact List.mem_append_left _ hx))) (fun x hx=>hs x (by rw [e];exact List.mem_append_left _ hx)),
  gU hB (fun t ht=>hT t (List.mem_cons_of_mem _ ht)) h2 (fun x hx=>hlt x (by rw [e];exact List.mem_append_right _ hx)) (fun x hx=>hs x (by rw [e];exact List.mem_append_right _ hx)),e⟩
theorem rR {H:Type} {enc:TypeId × Value→H} {f:Func} {s:ChangeSpec} {apart fresh handsOn again:Bool} {W W':World} {args:Array Value} {ds gs:List (DataW H)} {before:List MemPlace}
  (hW:DataW.Whole enc Tryz.prog f.params.toList s.vars apart W args.toList ds gs before) (hv:s.vars=[]) (hT:∀ t∈f.params.toList,Tryz.prog.readableRec t=true∧t<Tryz.prog.types.size)
  (hres:f.resultTypes=#[4]) (hfn:(s.fn H (ds++gs)).results=[.lit (.bool true)]) (hfa:(s.fn H (ds++gs)).args=ds) (Y9:(s.fn H (ds++gs)).vars=[]) (hB:Ext W W') :
  s.post enc Tryz.prog f apart fresh handsOn again W args (.bool true) W':=by
 have hlt:∀ p∈before,p.block<W.heap.size:=fun p hp=>hW.lt p hp
 have hold:∀ p∈before,(fun b=>decide (b<W.heap.size)) p.block=true:=fun p hp=>by simpa using hlt p hp
 have hres':∀ (b:Nat) (sp:Nat→Bool) (hd:Bool),DataW.TrodAll enc Tryz.prog W' b sp hd f.resultTypes.toList ((Value.bool true).resultList f.resultTypes.size) (s.fn H (ds++gs)).results []:=by
  intro b sp hd
  rw [hres,hfn]
  exact trodAll_mk1 (shut_bool Tryz.underlying4 _)
 have hW2:=hW
 obtain ⟨p,q,hA,hV,hpq,hz,hn⟩:=hW
 rw [hv] at hV
 obtain ⟨_,rfl⟩:=trodVars_none hV
 rw [List.append_nil] at hpq
 subst hpq
 have hargs:∀ sp:Nat→Bool,(∀ p'∈before,sp p'.block=true)→DataW.TrodAll enc Tryz.prog W' 0 sp true f.params.toList args.toList (s.fn H (ds++gs)).args before:=fun sp hs=>by
  rw [hfa];exact gU hB hT hA hlt hs
 have hvars:∀ sp:Nat→Bool,DataW.TrodVars enc Tryz.prog W' sp s.vars (s.fn H (ds++gs)).vars []:=fun sp=>by rw [hv,Y9];exact rfl
 refine ⟨ds,gs,before,[],before,[],hW2,hres' _ _ _,hargs _ hold,hvars _,World.keptBut_mono (fun p hp=>⟨hp,?_⟩) (Below.frame hB (·∈before)),fun _=>?_⟩
 · simpa using hp
 · refine ⟨ok_one hres rfl (okWide_bool_mk Tryz.underlying4 _),_,_,([]++before)++[],⟨[]++before,[],trodAll_append (hargs _ (fun _ _=>rfl)) (hres' _ _ _),hvars _,rfl,?_,?_⟩,?_⟩
   · intro b off hp
     have hin:MemPlace.cell b off∈before:=by simpa using hp
     rw [Below.frozen hB (hlt _ hin)]
     exact hz b off hin
   · intro ha
     have:=hn ha
     simpa using this
   · intro p hp _
     simpa using hp
end Go.Proofs.YtdpmbgomcjnohaaGreatDoor
namespace Go.Proofs.YtdpmbgomcjnohaaGreatDoor
open Pl
open Go.ChangeShapes Go.WideShapes Go.ChangeAt Go.RowKit
set_option linter.all false
set_option maxRecDepth 100000
set_option maxHeartbeats 8000000
theorem jy {H:Type} {enc:TypeId × Value→H} {W:World} {fuel:Nat} {v:Value} {y:DataW H × List MemPlace} (hf:DataW.trod enc Tryz.prog W 0 (fun _=>true) true fuel 22 [v]=some y) :
  ∃ xs:List Nat,U W v xs:=by
 rcases open_ints Tryz.underlying22 Tryz.underlying67 wM hf with ⟨hcs,hx⟩ | ⟨a,len,cap',zs,hcs,_,hl,hm,hz,hx,hcell,hwz⟩
 · simp at hcs
   subst hcs
   exact ⟨[],U.uW _ _ _⟩
 · simp at hcs
   subst hcs
   simp only [if_true] at hz
   have hlen:((zs.take len).map Int.toNat).length=len:=by simp;omega
   have hb:∀ z∈zs,0≤z∧z<4294967296:=fun z hzz=>by have:=bounds_u32 (hwz z hzz);omega
   refine ⟨(zs.take len).map Int.toNat,some a,cap',by rw [hlen],⟨by rw [hlen];exact hl,by rw [hlen];unfold maxLen at hm;omega⟩,?_,fun h0=>⟨a,rfl,?_,fun j hj=>?_⟩⟩
   · intro x hx'
     obtain ⟨z,hz1,rfl⟩:=List.mem_map.1 hx'
     have:=hb z (List.mem_of_mem_take hz1)
     omega
   · rw [hlen] at h0
     have hc:=hcell 0 (by omega)
     rw [iF] at hc
     unfold World.cell? at hc
     rcases Nat.lt_or_ge a.block W.heap.size with h | h
     · exact h
     · rw [Array.getElem?_eq_none h] at hc;cases hc
   · rw [hlen] at hj
     have hjz:j<zs.length:=by omega
     have e:lb ((zs.take len).map Int.toNat) j=(zs.getD j 0).toNat:=by
      simp [lb,hj,hjz]
     rw [hcell j hjz,e]
     have hmem:zs.getD j 0∈zs:=by simp [hjz]
     have:=hb _ hmem
     rw [show (((zs.getD j 0).toNat:Nat):Int)=zs.getD j 0 by omega]
end Go.Proofs.YtdpmbgomcjnohaaGreatDoor
namespace Go.Proofs.YtdpmbgomcjnohaaGreatDoor
open Pl
open Go.RowKit
set_option linter.all false
set_option maxRecDepth 100000
set_option maxHeartbeats 8000000
theorem nU (w:World) (v:Value) (xs:List Nat) (k:Int) (hk0:0≤k) (hk1:k≤1000000000) (h:U w v xs) :
  Calls Tryz.prog 63 #[v,.int .i64 k] w fun e w'=>(∃ u,e = .returned u∧Un w' u (dM xs k.toNat))∧Below w.heap.size w w':=by
 have h':=h
 obtain ⟨A,c,rfl,⟨hc,hm⟩,hx,hr⟩:=h
 clear hr
 by_cases hl:(xs.length:Int)≤k
 · have hu:=dB w _ xs h' (by omega)
   have HT:Hid (xs.take k.toNat=xs):=List.take_of_length_le (by omega)
   have hmin:min (xs.length:Int) k=xs.length:=by omega
   go_enter Tryz.func63,Tryz.ntmps63
   go_wp2_with (go_at_call 100;refine hu.mono ?_;rintro e w' ⟨⟨z,rfl,hz⟩,hB⟩)
   go_ret
   exact ⟨⟨_,rfl,by rw [Un,dM,HT.out];exact hz⟩,hB⟩
 · obtain ⟨k,rfl⟩:=Int.eq_ofNat_of_zero_le hk0
   have hu:=dB w _ _ (h'.take (k:=k) (c':=c) (by omega) (by omega)) (by rw [List.length_take];omega)
   have hmin:min (xs.length:Int) (k:Int)=k:=by omega
   go_enter Tryz.func63,Tryz.ntmps63
   go_wp2_with (go_at_call 100;refine hu.mono ?_;rintro e w' ⟨⟨z,rfl,hz⟩,hB⟩)
   go_ret
   exact ⟨⟨_,rfl,by rw [Un,dM,Int.toNat_natCast];exact hz⟩,hB⟩
end Go.Proofs.YtdpmbgomcjnohaaGreatDoor
namespace Go.Proofs.YtdpmbgomcjnohaaGreatDoor
open Pl
open Go.RowKit
set_option linter.all false
set_option maxRecDepth 100000
set_option maxHeartbeats 8000000
theorem uY (w:World) (v:Value) (xs:List Nat) (k:Int) (h:U w v xs) (hk0:0≤k) (hk1:k≤1000000000) (n:Nat) (hn:dM xs k.toNat=n) :
  Calls Tryz.prog 63 #[v,.int .i64 k] w fun e w'=>∃ u,e = .returned u∧Un w' u n∧Ext w w':=by
 subst hn
 exact (nU w v xs k hk0 hk1 h).mono fun e w' ⟨⟨u,he,hu⟩,hb⟩=>⟨u,he,hu,hb⟩
end Go.Proofs.YtdpmbgomcjnohaaGreatDoor
namespace Go.Proofs.YtdpmbgomcjnohaaGreatDoor
open Pl
open Go.RowKit
set_option linter.all false
set_option maxRecDepth 100000
set_option maxHeartbeats 8000000
theorem qN (w:World) (v:Value) (xs:List Nat) (h:U w v xs) :
  Calls Tryz.prog 99 #[v] w fun e w'=>e = .returned (.bool (eO xs))∧w=w':=by
 obtain ⟨A,c,rfl,⟨hc,hm⟩,hx,hr⟩:=h
 by_cases hlen:xs.length≤65536
 · rcases Nat.eq_zero_or_pos xs.length with h0 | h0
   · obtain rfl:=List.eq_nil_of_length_eq_zero h0
     go_enter Tryz.func99,Tryz.ntmps99
     go_wp2
     go_ret
     exact ⟨rfl,rfl⟩
   · obtain ⟨ad,rfl,hb,hcell⟩:=hr h0
     have hc1:=hcell (xs.length-1) (by omega)
     have hne:(((xs.length:Nat):Int)==0)=false:=by rw [beq_eq_false_iff_ne];omega
     have hres:eO xs=(lb xs (xs.length-1) != 0):=by
      unfold eO
      have:xs.isEmpty=false:=by cases xs<;>simp_all
      simp [hlen,this]
     have HR:=Lib.hid hres
     clear hres
     go_enter Tryz.func99,Tryz.ntmps99
     go_wp2
     go_ret
     exact ⟨by rw [HR.out,← bne_cast];rfl,rfl⟩
 · have hres:eO xs=false:=by unfold eO;simp [hlen]
   have hne:(((xs.length:Nat):Int)==0)=false:=by rw [beq_eq_false_iff_ne];omega
   have HR:=Lib.hid hres
   clear hres
   go_enter Tryz.func99,Tryz.ntmps99
   go_wp2
   go_ret
   exact ⟨by rw [HR.out];rfl,rfl⟩
end Go.Proofs.YtdpmbgomcjnohaaGreatDoor
namespace Go.Proofs.YtdpmbgomcjnohaaGreatDoor
open Pl
open Go.RowKit
set_option linter.all false
set_option maxRecDepth 100000
set_option maxHeartbeats 8000000
theorem jS (w:World) (va vb:Value) (cZ bs:List Nat) (na nb:Nat) (ha:U w va cZ) (hb:U w vb bs) (hna:cZ.length=na) (hnb:bs.length=nb) (hn1:na≤1000) (hn2:nb≤1000) :
  Calls Tryz.prog 143 #[va,vb] w fun e w'=>(∃ u,e = .returned u∧Un w' u (val cZ*val bs))∧Ext w w':=by
 obtain ⟨A,ca,rfl,⟨hca,hma⟩,hxl,Pb⟩:=id ha
 obtain ⟨A2,cb,rfl,⟨hcb,hmb⟩,hyl,Pd⟩:=id hb
 have HL:Hid (cZ.length=na∧bs.length=nb):=⟨hna,hnb⟩
 have WG:=Lib.hid (fun k=>gz bs k)
 have WH:=Lib.hid (fun k=>gz cZ k)
 have HT2:Hid (bs.take nb=bs∧cZ.take na=cZ):=⟨by rw [← hnb];exact List.take_length,by rw [← hna];exact List.take_length⟩
 rw [hna] at hca hma Pb ⊢
 rw [hnb] at hcb hmb Pd ⊢
 obtain ⟨n,hnn⟩:∃ n,na+nb=n:=⟨_,rfl⟩
 have hni:(na:Int)+(nb:Int)=(n:Int):=by omega
 obtain ⟨i0,hi,hz0,hz1,hz2⟩:=info_parts qB
 obtain ⟨B,hB⟩:∃ B,w.heap.size=B:=⟨_,rfl⟩
 have Dl:=Lib.hid hB
 clear ha hb hna hnb
 go_enter Tryz.func143,Tryz.ntmps143
 go_wp2_with (at_make;refine wpList_make_full _ rfl _ _ 22 rfl w.heap.size 67 i0 (.int .u32 0) 1 Tryz.underlying22 hi hz0 hz1 _ _ _ _ n rfl rfl (by omega) (by omega) (by rw [hz2];omega) (by unfold maxLen;omega) (Nat.le_refl _) ?_;intro w1 hown hgrow)
 have ho0:Own w1 w.heap.size (.slice (some ⟨w.heap.size,0,none⟩) n n) (List.replicate n 0):=by
  have:=Own.zeros hown
  rwa [List.length_replicate] at this
 have hE0:Ext w w1:=(Ext.refl w).grown hgrow (Nat.le_refl _) (fun _ h=>by cases h)
 rw [hB] at ho0
 clear hown hgrow hi hz0 hz1 hz2 i0
 have hS0:Hid (Ov bs cZ n 0 (List.replicate n 0)):=⟨by simp,fun x hx=>by simp at hx;omega,by simp [dG,val],fun m _=>gZ _ _⟩
 go_wp2
 go_loopw [6] (fun t wr=>∃ (i:Nat) (o:List Nat),i≤na∧t = .int .i64 (i:Nat)∧Hid (Ov bs cZ n i o)∧Own wr B (.slice (some ⟨B,0,none⟩) n n) o∧Ext w wr) (fun t _=>na-(intOf t).toNat)
 case atStart=>exact ⟨0,_,Nat.zero_le _,rfl,hS0,ho0,hE0⟩
 case round =>
  clear hS0 ho0 hE0
  obtain ⟨i,o,hib,rfl,HO,hown,hE⟩:=hrel
  by_cases hlt:i<na
  · obtain ⟨ad,rfl,hb1,hcell1⟩:=Pb (by omega)
    have hyb:=cK hxl i
    have hty:=WH.out i (by rw [HL.out.1];exact hlt)
    obtain ⟨y,yZ⟩:∃ y,lb cZ i=y:=⟨_,rfl⟩
    rw [yZ] at hyb hty
    have HY:=Lib.hid yZ
    have Pe:Hid (Pf o n i (val o+LB^i*(val (bs.take 0)*y)) 0 o 0):=⟨HO.out.len,HO.out.lt,by decide,by simp [val],fun m _=>rfl⟩
    have AU:Hid (val (cZ.take (i+1))=val (cZ.take i)+LB^i*y):=hty
    have hno:Hid (lb o (i+nb)=0):=HO.out.out _ (by rw [HL.out.2];exact Nat.le_refl _)
    clear yZ hty
    go_wp2
    go_loopw [8,7] (fun t s wx=>∃ (j:Nat) (o2:List Nat) (cy:Nat),j≤nb∧t = .int .i64 (j:Nat)∧s = .int .u64 (cy:Nat)∧Hid (Pf o n i (val o+LB^i*(val (bs.take j)*y)) j o2 cy)∧Own wx B (.slice (some ⟨B,0,none⟩) n n) o2∧Ext w wx) (fun t _ _=>nb-(intOf t).toNat)
    case atStart=>exact ⟨0,o,0,Nat.zero_le _,rfl,rfl,Pe,hown,hE⟩
    case round =>
     clear Pe hown hE
     obtain ⟨j,o2,cy,hj,rfl,rfl,HW,hown,hE⟩:=hrel
     by_cases hjt:j<nb
     · obtain ⟨Jv,rfl,hb2,hcell2⟩:=Pd (by omega)
       have hc0:=(hE.cell (p:=ad.add i) (by rw [aF];exact hb1)).trans (hcell1 i hlt)
       rw [HY.out] at hc0
       have hc1:=(hE.cell (p:=Jv.add j) (by rw [aF];exact hb2)).trans (hcell2 j hjt)
       have hxb:=cK hyl j
       have htk:=WG.out j (by rw [HL.out.2];exact hjt)
       have hcz:=hown.rd.2 (i+j) (by rw [HW.out.len];omega)
       have hf:=hown.frozen' (i+j)
       have hzb:=cK HW.out.lt (i+j)
       have hcy:=HW.out.zT
       obtain ⟨x,wF⟩:∃ x,lb bs j=x:=⟨_,rfl⟩
       rw [wF] at hc1 hxb htk
       obtain ⟨z,hzz⟩:∃ z,lb o2 (i+j)=z:=⟨_,rfl⟩
       rw [hzz] at hcz hzb
       obtain ⟨t,ht⟩:∃ t,x*y=t:=⟨_,rfl⟩
       have ht1:t≤18446744065119617025:=by rw [← ht];exact LY hxb hyb
       have hti:(y:Int)*(x:Int)=(t:Int):=by rw [← ht,Int.natCast_mul,Int.mul_comm]
       obtain ⟨u,hu⟩:∃ u,cy+(t+z)=u:=⟨_,rfl⟩
       obtain ⟨s,hs⟩:∃ s,u%4294967296=s:=⟨_,rfl⟩
       obtain ⟨d,hd⟩:∃ d,u/4294967296=d:=⟨_,rfl⟩
       obtain ⟨hm,hsb,hdb,hub,htz⟩:=tY t z cy s d u ht1 hzb hcy hu hs hd
       have hst:=HW.out.step (by omega) t s d (by rw [hzz];exact hm) hsb hdb
       rw [Nat.add_assoc (val o),Nat.pow_add,Nat.mul_assoc,← Nat.mul_add,← ht,← Nat.mul_assoc,← Nat.add_mul,← htk] at hst
       have HST:=Lib.hid hst
       have hown2:=hown.set' (i+j) s
       have hE2:=hE.setCell (p:=⟨B,i+j,none⟩) (by rw [Dl.out];exact Nat.le_refl _) (.int .u32 (s:Nat))
       have q1:IntKind.u64.wrap (t:Int)=(t:Int):=by rw [IntKind.wrap_u64];omega
       have q2:IntKind.u64.wrap ((t:Int)+(z:Int))=(t:Int)+(z:Int):=by rw [IntKind.wrap_u64];omega
       have q3:(t:Int)+(z:Int)+(cy:Int)=(u:Int):=by omega
       have q4:IntKind.u64.wrap (u:Int)=(u:Int):=by rw [IntKind.wrap_u64];omega
       have q5:IntKind.u32.wrap (u:Int)=(s:Int):=by rw [IntKind.wrap_u32];omega
       have q6:(u:Int)%4294967296=(s:Int):=by omega
       have q7:(u:Int)/4294967296=(d:Int):=by omega
       have q8:IntKind.u64.wrap (x:Int)=(x:Int):=by rw [IntKind.wrap_u64];omega
       have q9:IntKind.u64.wrap (y:Int)=(y:Int):=by rw [IntKind.wrap_u64];omega
       have q10:IntKind.u64.wrap (z:Int)=(z:Int):=by rw [IntKind.wrap_u64];omega
       have q11:(u:Int)%18446744073709551616=(u:Int):=by omega
       have q12:(t:Int)%18446744073709551616=(t:Int):=by omega
       have q13:((t:Int)+(z:Int))%18446744073709551616=(t:Int)+(z:Int):=by omega
       have q14:IntKind.i64.wrap ((i:Int)+(j:Int))=(i:Int)+(j:Int):=IntWalk.i64_in _ (by omega)
       have q15:(0:Int)≤(i:Int)+(j:Int):=by omega
       have q16:(i:Int)+(j:Int)<(n:Int):=by omega
       have q17:((i:Int)+(j:Int)).toNat=i+j:=by omega
       have q18:(0:Int)≤(i:Int):=by omega
       have q19:(i:Int)<(na:Int):=by omega
       have q20:(0:Int)≤(j:Int):=by omega
       have q21:(j:Int)<(nb:Int):=by omega
       clear hst htk wF hzz ht hu hs hd hm HW hxb hzb ht1 hcy hown2 hE2
       have HOWN:=Lib.hid hown
       have Za:=Lib.hid hE
       clear hown hE
       go_wp2_with (fail)
       go_quiet (fail)
       have hown2:=(HOWN.out.ext (jq wr nq)).set' (i+j) s
       have hE2:=(Za.out.below (jq wr nq)).setCell (p:=⟨B,i+j,none⟩) (by rw [Dl.out];exact Nat.le_refl _) (.int .u32 (s:Nat))
       go_wp2
       go_roundw
       case rel=>exact ⟨j+1,_,d,by omega,by go_num,rfl,HST,hown2,hE2⟩
       case measure=>simp [intOf];omega
     · obtain rfl:j=nb:=by omega
       have hcz:=hown.rd.2 (i+j) (by rw [HW.out.len];omega)
       have hf:=hown.frozen' (i+j)
       have hl0:lb o2 (i+j)=0:=by rw [HW.out.out _ (Nat.le_refl _)];exact hno.out
       have hws:=pW o2 (i+j) cy (by rw [HW.out.len];omega)
       rw [hl0,Nat.mul_zero,Nat.add_zero,HW.out.val,HT2.out.1] at hws
       have wN:(Value.int .u32 (lb o2 (i+j):Nat)) = .int .u32 0:=by rw [hl0];rfl
       rw [wN] at hcz
       have AX:=HW.out.zT
       have q5:IntKind.u32.wrap (cy:Int)=(cy:Int):=by rw [IntKind.wrap_u32];omega
       have q6:(cy:Int)%4294967296=(cy:Int):=by omega
       have hown2:=hown.set' (i+j) cy
       have hE2:=hE.setCell (p:=⟨B,i+j,none⟩) (by rw [Dl.out];exact Nat.le_refl _) (.int .u32 (cy:Nat))
       have HST:Hid (Ov bs cZ n (i+1) (o2.set (i+j) cy)):=by
        refine ⟨by rw [List.length_set];exact HW.out.len,dY HW.out.lt AX,?_,fun m hm=>?_⟩
        · rw [hws,AU.out,Nat.mul_add,← HO.out.val,Nat.mul_left_comm]
        · rw [HL.out.2] at hm
          rw [bX _ (by omega),HW.out.out _ (by omega)]
          exact HO.out.out m (by rw [HL.out.2];omega)
       have g12:(i:Int)+(j:Int)<(n:Int):=by omega
       have g13:i+j<n:=by omega
       clear hl0 hws wN hown hE HW AX AU hno
       go_wp2
       go_roundw
       case rel=>exact ⟨i+1,_,by omega,by go_num,HST,hown2,hE2⟩
       case measure=>simp [intOf];omega
  · obtain rfl:i=na:=by omega
    have hu:=hown.xX HO.out.lt (by rw [HO.out.len];omega)
    have hvv:=HO.out.val
    rw [HT2.out.2,Nat.mul_comm] at hvv
    have HV:=Lib.hid hvv
    have hol:=HO.out.len
    clear hown HO hvv
    go_wp2_with (fail)
    refine (dB _ _ _ hu (by omega)).mono ?_
    rintro e w2 ⟨⟨u,rfl,hu2⟩,hB2⟩
    rw [HV.out] at hu2
    have hE2:=hE.below hB2
    have HF:Hid (∃ u',Ending.returned u = .returned u'∧Un w2 u' (val cZ*val bs)):=⟨_,rfl,hu2⟩
    clear hu2 hu hB2
    go_wp2
    go_ret
    exact ⟨HF.out,hE2⟩
end Go.Proofs.YtdpmbgomcjnohaaGreatDoor
namespace Go.Proofs.YtdpmbgomcjnohaaGreatDoor
open Pl
open Go.RowKit
set_option linter.all false
set_option maxRecDepth 100000
set_option maxHeartbeats 8000000
theorem nV (w:World) (va vb:Value) (n m k:Nat) (ha:Un w va n) (hb:Un w vb m) (hn:(limbs n).length≤398) (hm:(limbs m).length≤398) (hk:n*m=k) :
  Calls Tryz.prog 143 #[va,vb] w fun e w'=>∃ u,e = .returned u∧Un w' u k∧Ext w w':=by
 refine (jS w va vb _ _ _ _ ha hb rfl rfl (by omega) (by omega)).mono ?_
 rw [aH,aH,hk]
 rintro e w' ⟨⟨u,h1,h2⟩,h3⟩
 exact ⟨u,h1,h2,h3⟩
end Go.Proofs.YtdpmbgomcjnohaaGreatDoor
namespace Go.Proofs.YtdpmbgomcjnohaaGreatDoor
open Pl
open Go.RowKit
set_option linter.all false
set_option maxRecDepth 100000
set_option maxHeartbeats 8000000
attribute [local go_sem ↓] fD
attribute [local go_sem] bL
theorem nW (w:World) (v:Value) (n:Nat) (k0:Nat) (hk:k0≤100000000) (h:Un w v n) (hl:(limbs n).length≤100000000) :
  Calls Tryz.prog 92 #[v,.int .i64 (k0:Int)] w fun e w'=>(∃ u,e = .returned u∧Un w' u (n*2^k0))∧Below w.heap.size w w':=by
 obtain ⟨A,c,rfl,⟨hc,hm⟩,hx,hr⟩:=id h
 clear hr
 obtain ⟨Q,hQ⟩:∃ Q,k0/32=Q:=⟨_,rfl⟩
 obtain ⟨S,hS⟩:∃ S,k0%32=S:=⟨_,rfl⟩
 have eQ:(k0:Int)/32=(Q:Int):=by omega
 have eS:(k0:Int)%32=(S:Int):=by omega
 have HK:Hid (k0=32*Q+S):=by rw [Hid];omega
 have nS:S<32:=by omega
 have VB:Q≤100000000:=by omega
 go_enter Tryz.func92,Tryz.ntmps92
 go_wp2_with (fail)
 have hown0:Own (w.alloc (.cells #[] 67)) w.heap.size (.slice (some ⟨w.heap.size,0,none⟩) 0 0) []:=World.ownsRow_lit w #[] 0 (Nat.le_refl _) (Nat.zero_le _) rfl
 have hB0:Below w.heap.size w (w.alloc (.cells #[] 67)):=(Below.refl _ _).alloc (Nat.le_refl _) _
 go_loopw [5,8] (fun s i wr=>∃ k:Nat,k≤Q∧i = .int .i64 k∧Own wr w.heap.size s (List.replicate k 0)∧Below w.heap.size w wr) (fun _ i _=>Q-(intOf i).toNat)
 case atStart=>exact ⟨0,Nat.zero_le _,rfl,hown0,hB0⟩
 case round =>
  clear hown0 hB0
  obtain ⟨k,hk1,rfl,hown,hB⟩:=hrel
  by_cases hd1:k<Q
  · obtain ⟨v',w',hrun,hown',hB'⟩:=fI hB hown 0 0 rfl (by decide) (by simp;omega)
    obtain ⟨t1,t2,t3⟩:=eD hrun
    rw [← List.replicate_succ'] at hown'
    clear hrun
    go_wp2
    go_roundw
    case rel=>exact ⟨k+1,by omega,by go_num,hown',hB'⟩
    case measure=>simp [intOf];omega
  · obtain rfl:k=Q:=by omega
    go_wp2_with (fail)
    go_loop [7,9] (fun b i=>∃ j:Nat,j≤S∧i = .int .i64 j∧b = .int .u64 (2^j:Nat)) (fun _ i=>S-(intOf i).toNat)
    case atStart=>exact ⟨0,Nat.zero_le _,rfl,rfl⟩
    case round =>
     obtain ⟨j,hj,rfl,rfl⟩:=hrel
     have hp1:2^j<4294967296:=Nat.lt_of_le_of_lt (Nat.pow_le_pow_right (by decide) (show j≤31 by omega)) (by decide)
     by_cases hd2:j<S
     · have HN:Hid (2*((2^j:Nat):Int)=((2^(j+1):Nat):Int)):=by rw [Hid,Nat.pow_succ];omega
       obtain ⟨X,hX⟩:∃ X,2^j=X:=⟨_,rfl⟩
       rw [hX] at HN hp1
       rw [hX]
       clear hX
       go_wp2
       go_round
       case rel=>exact ⟨j+1,by omega,by go_num,by rw [← HN.out]⟩
       case measure=>simp [intOf];omega
     · obtain rfl:j=S:=by omega
       have hp0:0<2^j:=Nat.two_pow_pos j
       have O8:Hid (n*2^k0=n*2^j*4294967296^k):=by
        rw [Hid,HK.out,mE,Nat.pow_add,Nat.mul_comm (2^(32*k)),← Nat.mul_assoc]
       obtain ⟨P,hP⟩:∃ P,2^j=P:=⟨_,rfl⟩
       rw [hP] at hp0 hp1 O8
       rw [hP]
       clear hP
       go_wp2_with (fail)
       have O9:Hid (nT (limbs n) k P 0 (List.replicate k 0) 0):=nT.start _ _ _ hp0
       go_loopw [5,6,10] (fun s cv i wr=>∃ (m cy:Nat) (o:List Nat),m≤(limbs n).length+1∧i = .int .i64 m∧cv = .int .u64 cy∧Hid (nT (limbs n) k P m o cy)∧Own wr w.heap.size s o∧Below w.heap.size w wr) (fun _ _ i _=>(limbs n).length+1-(intOf i).toNat)
       case atStart=>exact ⟨0,0,_,Nat.zero_le _,rfl,rfl,O9,hown,hB⟩
       case round =>
        clear O9 hown hB
        obtain ⟨m,cy,o,hm1,rfl,rfl,HO,hown,hB⟩:=hrel
        have hlen:=HO.out.len
        by_cases hd3:m≤(limbs n).length
        · have h1:=cK hx m
          have h3:=HO.out.carry
          have h4:lb (limbs n) m*P+cy<4294967296*P:=by
           have:=Nat.mul_le_mul_right P (show lb (limbs n) m+1≤4294967296 by omega)
           rw [Nat.add_mul] at this;omega
          have e1:((lb (limbs n) m:Nat):Int)*(P:Int)=((lb (limbs n) m*P:Nat):Int):=by rw [Int.natCast_mul]
          have TK:((lb (limbs n) m:Nat):Int)*(P:Int)+(cy:Int)<18446744073709551616:=by rw [e1];omega
          have Y8:0≤((lb (limbs n) m:Nat):Int)*(P:Int):=by rw [e1];omega
          obtain ⟨x1,hx1⟩:∃ x1,(lb (limbs n) m*P+cy)%4294967296=x1:=⟨_,rfl⟩
          obtain ⟨c1,hc1⟩:∃ c1,(lb (limbs n) m*P+cy)/4294967296=c1:=⟨_,rfl⟩
          have AQ:Hid (nT (limbs n) k P (m+1) (o++[x1]) c1):=by rw [Hid,← hx1,← hc1];exact HO.out.step hx
          obtain ⟨v',w',hrun,hown',hB'⟩:=fI hB hown ((((lb (limbs n) m:Nat):Int)*(P:Int)+(cy:Int))%4294967296) x1 (by rw [← hx1,e1];omega) (by rw [← hx1];exact Nat.mod_lt _ (by decide)) (by omega)
          obtain ⟨t1,t2,t3⟩:=eD hrun
          have EM:Hid ((((lb (limbs n) m:Nat):Int)*(P:Int)+(cy:Int))/4294967296=(c1:Int)):=by rw [Hid,← hc1,e1];omega
          clear hrun hx1 hc1 hlen e1 h4
          go_wp2_with (fail)
          refine (bJ _ _ (limbs n) _ m rfl (U.below h hB)).mono ?_
          rintro e w' ⟨rfl,rfl⟩
          go_wp2_with (fail)
          go_roundw
          case rel=>exact ⟨m+1,c1,_,by omega,by go_num,by rw [EM.out],AQ,hown',hB'⟩
          case measure=>simp [intOf];omega
        · obtain rfl:m=(limbs n).length+1:=by omega
          have HV:Hid (val o=n*2^k0):=by rw [Hid,HO.out.done hx (Nat.le_refl _) hp1,aH,O8.out]
          have hu:=hown.xX HO.out.lt (by omega)
          have hol:o.length≤1000000000:=by omega
          clear hlen
          go_wp2_with (fail)
          refine (dB _ _ _ hu hol).mono ?_
          rintro e w' ⟨⟨z,rfl,hz⟩,hB2⟩
          have hz2:Un w' z (n*2^k0):=by rw [← HV.out];exact hz
          replace hB:=Below.trans hB (Below.mono hB2 hB.size)
          clear hz
          go_wp2
          go_ret
          exact ⟨⟨_,rfl,hz2⟩,hB⟩
end Go.Proofs.YtdpmbgomcjnohaaGreatDoor
namespace Go.Proofs.YtdpmbgomcjnohaaGreatDoor
open Pl
open Go.RowKit
set_option linter.all false
set_option maxRecDepth 100000
set_option maxHeartbeats 8000000
attribute [local go_sem ↓] fD
attribute [local go_sem] bL
theorem uZ (o:List Nat) (N:Nat) (h:∀ j,j<o.length→lb o j=N/4294967296^j%4294967296):val o=N%4294967296^o.length:=by
 have key:∀ j,j≤o.length→val (o.take j)=N%4294967296^j:=by
  intro j
  induction j with
  | zero=>intro _;simp [val,Nat.mod_one]
  | succ j ih =>
   intro hj
   rw [gV o j (by omega),ih (by omega),h j (by omega),Nat.mod_pow_succ,Nat.mul_comm]
 have:=key o.length (Nat.le_refl _)
 rwa [List.take_length] at this
theorem xZ (n q S k:Nat) (hS:S<32) :
  (lb (limbs n) (q+k)+4294967296*(lb (limbs n) (q+k+1)%2^S))/2^S%4294967296=n/2^(32*q+S)/4294967296^k%4294967296:=by
 rw [nQ,nQ]
 have e1:n/2^(32*q+S)/4294967296^k=n/4294967296^(q+k)/2^S:=by
  rw [Nat.div_div_eq_div_mul,Nat.div_div_eq_div_mul,Nat.pow_add 2,← mE,Nat.pow_add 4294967296,Nat.mul_right_comm]
 have e2:n/4294967296^(q+k+1)=n/4294967296^(q+k)/4294967296:=by
  rw [Nat.pow_succ,Nat.div_div_eq_div_mul]
 rw [e1,e2]
 generalize n/4294967296^(q+k)=V
 have hd:2^S∣4294967296:=⟨2^(32-S),by rw [← Nat.pow_add,show S+(32-S)=32 by omega]⟩
 rw [Nat.mod_mod_of_dvd _ hd]
 have hp:0<2^S:=Nat.two_pow_pos S
 generalize 2^S=P at *
 have e3:V=V%4294967296+4294967296*(V/4294967296%P)+P*(4294967296*(V/4294967296/P)):=by
  have a1:=Nat.div_add_mod V 4294967296
  have a2:=Nat.div_add_mod (V/4294967296) P
  have a3:4294967296*(V/4294967296)=P*(4294967296*(V/4294967296/P))+4294967296*(V/4294967296%P):=by
   conv=>lhs;rw [← a2]
   rw [Nat.mul_add,Nat.mul_left_comm]
  omega
 conv=>rhs;rw [e3]
 rw [Nat.add_mul_div_left _ _ hp,Nat.add_mul_mod_self_left]
theorem EN (a b P:Nat) (ha:a<4294967296) (gY:0<P) (hP:P<4294967296) :
  (IntKind.u64.wrap ((IntKind.u64.wrap ((a:Int)+IntKind.u64.wrap (4294967296*((b:Int)%(P:Int))))).tdiv (P:Int))).tmod 4294967296%4294967296=(((a+4294967296*(b%P))/P%4294967296:Nat):Int):=by
 have hr:b%P<P:=Nat.mod_lt _ gY
 rw [← Int.natCast_emod]
 generalize b%P=r at *
 rw [show IntKind.u64.wrap (4294967296*(r:Int))=4294967296*(r:Int) by rw [IntKind.wrap_u64];omega]
 rw [show IntKind.u64.wrap ((a:Int)+4294967296*(r:Int))=((a+4294967296*r:Nat):Int) by rw [IntKind.wrap_u64];omega]
 have hX:a+4294967296*r<18446744073709551616:=by omega
 generalize a+4294967296*r=X at *
 have hY:X/P<18446744073709551616:=Nat.lt_of_le_of_lt (Nat.div_le_self _ _) hX
 rw [Int.tdiv_eq_ediv_of_nonneg (by omega),← Int.natCast_ediv]
 generalize X/P=Y at *
 rw [IntKind.wrap_u64,Int.tmod_eq_emod_of_nonneg (by omega)]
 omega
theorem ve (w:World) (v:Value) (n:Nat) (k0:Nat) (hk:k0≤100000000) (h:Un w v n) (hl:(limbs n).length≤100000000) :
  Calls Tryz.prog 66 #[v,.int .i64 (k0:Int)] w fun e w'=>(∃ u,e = .returned u∧Un w' u (n/2^k0))∧Below w.heap.size w w':=by
 obtain ⟨A,c,rfl,⟨hc,hm⟩,hx,hr⟩:=id h
 clear hr
 obtain ⟨Q,hQ⟩:∃ Q,k0/32=Q:=⟨_,rfl⟩
 obtain ⟨S,hS⟩:∃ S,k0%32=S:=⟨_,rfl⟩
 have eQ:(k0:Int)/32=(Q:Int):=by omega
 have eS:(k0:Int)%32=(S:Int):=by omega
 have HK:Hid (k0=32*Q+S):=by rw [Hid];omega
 have nS:S<32:=by omega
 have VB:Q≤100000000:=by omega
 go_enter Tryz.func66,Tryz.ntmps66
 go_wp2_with (fail)
 have hown0:Own (w.alloc (.cells #[] 67)) w.heap.size (.slice (some ⟨w.heap.size,0,none⟩) 0 0) []:=World.ownsRow_lit w #[] 0 (Nat.le_refl _) (Nat.zero_le _) rfl
 have hB0:Below w.heap.size w (w.alloc (.cells #[] 67)):=(Below.refl _ _).alloc (Nat.le_refl _) _
 go_loop [6,7] (fun b i=>∃ j:Nat,j≤S∧i = .int .i64 j∧b = .int .u64 (2^j:Nat)) (fun _ i=>S-(intOf i).toNat)
 case atStart=>exact ⟨0,Nat.zero_le _,rfl,rfl⟩
 case round =>
  obtain ⟨j,hj,rfl,rfl⟩:=hrel
  have hp1:2^j<4294967296:=Nat.lt_of_le_of_lt (Nat.pow_le_pow_right (by decide) (show j≤31 by omega)) (by decide)
  by_cases hd2:j<S
  · have HN:Hid (2*((2^j:Nat):Int)=((2^(j+1):Nat):Int)):=by rw [Hid,Nat.pow_succ];omega
    obtain ⟨X,hX⟩:∃ X,2^j=X:=⟨_,rfl⟩
    rw [hX] at HN hp1
    rw [hX]
    clear hX
    go_wp2
    go_round
    case rel=>exact ⟨j+1,by omega,by go_num,by rw [← HN.out]⟩
    case measure=>simp [intOf];omega
  · obtain rfl:j=S:=by omega
    have hp0:0<2^j:=Nat.two_pow_pos j
    have HD:Hid (∀ k,(lb (limbs n) (Q+k)+4294967296*(lb (limbs n) (Q+k+1)%2^j))/2^j%4294967296=n/2^k0/4294967296^k%4294967296):=fun k=>by
     rw [HK.out];exact xZ n Q j k nS
    have HT:Hid (n/2^k0<4294967296^((limbs n).length-Q)):=by
     rw [Hid,Nat.div_lt_iff_lt_mul (Nat.two_pow_pos _)]
     refine Nat.lt_of_lt_of_le (jw n) ?_
     rw [HK.out,Nat.pow_add,← mE,← Nat.mul_assoc,← Nat.pow_add]
     exact Nat.le_trans (Nat.pow_le_pow_right (by decide) (show (limbs n).length≤(limbs n).length-Q+Q by omega)) (Nat.le_mul_of_pos_right _ hp0)
    obtain ⟨P,hP⟩:∃ P,2^j=P:=⟨_,rfl⟩
    rw [hP] at hp0 hp1 HD
    rw [hP]
    clear hP
    go_wp2_with (fail)
    go_loopw [5,8] (fun s i wr=>∃ (m:Nat) (o:List Nat),(m=0∨Q+m≤(limbs n).length)∧i = .int .i64 ((Q+m:Nat):Int)∧Hid (o.length=m∧(∀ x∈o,x<4294967296)∧∀ t,t<m→lb o t=n/2^k0/4294967296^t%4294967296)∧Own wr w.heap.size s o∧Below w.heap.size w wr) (fun _ i _=>(limbs n).length-(intOf i).toNat)
    case atStart=>exact ⟨0,[],Or.inl rfl,rfl,⟨rfl,by simp,fun t ht=>by omega⟩,hown0,hB0⟩
    case round =>
     clear hown0 hB0
     obtain ⟨m,o,hm1,rfl,HO,hown,hB⟩:=hrel
     have hlen:=HO.out.1
     by_cases hd3:Q+m<(limbs n).length
     · have h1:=cK hx (Q+m)
       have h2:=cK hx (Q+m+1)
       obtain ⟨x1,hx1⟩:∃ x1,(lb (limbs n) (Q+m)+4294967296*(lb (limbs n) (Q+m+1)%P))/P%4294967296=x1:=⟨_,rfl⟩
       have hxl:x1<4294967296:=by rw [← hx1];exact Nat.mod_lt _ (by decide)
       have AQ:Hid ((o++[x1]).length=m+1∧(∀ x∈o++[x1],x<4294967296)∧∀ t,t<m+1→lb (o++[x1]) t=n/2^k0/4294967296^t%4294967296):=by
        refine ⟨by simp [hlen],l5 HO.out.2.1 hxl,fun t ht=>?_⟩
        rcases Nat.lt_or_ge t m with h6 | h6
        · rw [← HO.out.2.2 t h6];unfold lb;rw [List.getElem?_append_left (by omega)]
        · obtain rfl:t=m:=by omega
          rw [← HD.out t,hx1];unfold lb;rw [List.getElem?_append_right (by omega),hlen,Nat.sub_self];rfl
       have e2:(IntKind.u64.wrap ((IntKind.u64.wrap (((lb (limbs n) (Q+m):Nat):Int)+IntKind.u64.wrap (4294967296*(((lb (limbs n) (Q+m+1):Nat):Int)%(P:Int))))).tdiv (P:Int))).tmod 4294967296%4294967296=(x1:Int):=by rw [← hx1];exact EN _ _ _ h1 hp0 hp1
       obtain ⟨v',w',hrun,hown',hB'⟩:=fI hB hown ((IntKind.u64.wrap ((IntKind.u64.wrap (((lb (limbs n) (Q+m):Nat):Int)+IntKind.u64.wrap (4294967296*(((lb (limbs n) (Q+m+1):Nat):Int)%(P:Int))))).tdiv (P:Int))).tmod 4294967296%4294967296) x1 e2 hxl (by omega)
       obtain ⟨t1,t2,t3⟩:=eD hrun
       clear hrun hx1 e2 hlen hxl h2 hown hm1
       go_wp2_with (fail)
       refine (bJ _ _ (limbs n) _ (Q+m) (by omega) (U.below h hB)).mono ?_
       rintro e w' ⟨rfl,rfl⟩
       go_wp2_with (fail)
       refine (bJ _ _ (limbs n) _ (Q+m+1) (by omega) (U.below h hB)).mono ?_
       rintro e w' ⟨rfl,rfl⟩
       go_wp2_with (fail)
       go_roundw
       case rel=>exact ⟨m+1,_,Or.inr (by omega),by go_num,AQ,hown',hB'⟩
       case measure=>simp [intOf];omega
     · have HV:Hid (val o=n/2^k0):=by
        rw [Hid,uZ o (n/2^k0) (fun t ht=>HO.out.2.2 t (by omega))]
        apply Nat.mod_eq_of_lt
        refine Nat.lt_of_lt_of_le HT.out (Nat.pow_le_pow_right (by decide) (by omega))
       have hu:=hown.xX HO.out.2.1 (by omega)
       have hol:o.length≤1000000000:=by omega
       clear hlen
       go_wp2_with (fail)
       refine (dB _ _ _ hu hol).mono ?_
       rintro e w' ⟨⟨z,rfl,hz⟩,hB2⟩
       have hz2:Un w' z (n/2^k0):=by rw [← HV.out];exact hz
       replace hB:=Below.trans hB (Below.mono hB2 hB.size)
       clear hz
       go_wp2
       go_ret
       exact ⟨⟨_,rfl,hz2⟩,hB⟩
end Go.Proofs.YtdpmbgomcjnohaaGreatDoor
namespace Go.Proofs.YtdpmbgomcjnohaaGreatDoor
open Pl
open Go.RowKit
set_option linter.all false
set_option maxRecDepth 100000
set_option maxHeartbeats 8000000
theorem BN (w:World) (v:Value) (xs:List Nat) (h:U w v xs) (b:Bool) (hb:eO xs=b) :
  Calls Tryz.prog 99 #[v] w fun e w'=>e = .returned (.bool b)∧Ext w w' :=
 (qN w v xs h).mono fun e w' ⟨he,hw⟩=>⟨by rw [he,hb],by rw [← hw];exact Ext.refl w⟩
theorem rT (w:World) (v:Value) (n:Nat) (k:Nat) (h:Un w v n) (hk1:k≤100000000) (hl:(limbs n).length≤100000000) (s:Nat) (hs:n*2^k=s) :
  Calls Tryz.prog 92 #[v,.int .i64 (k:Int)] w fun e w'=>∃ z,e = .returned z∧Un w' z s∧Ext w w':=by
 subst hs
 exact (nW w v n k hk1 h hl).mono fun e w' ⟨⟨z,he,hz⟩,hb⟩=>⟨z,he,hz,hb⟩
theorem JH (w:World) (v:Value) (n:Nat) (k:Nat) (h:Un w v n) (hk1:k≤100000000) (hl:(limbs n).length≤100000000) (s:Nat) (hs:n/2^k=s) :
  Calls Tryz.prog 66 #[v,.int .i64 (k:Int)] w fun e w'=>∃ z,e = .returned z∧Un w' z s∧Ext w w':=by
 subst hs
 exact (ve w v n k hk1 h hl).mono fun e w' ⟨⟨z,he,hz⟩,hb⟩=>⟨z,he,hz,hb⟩
end Go.Proofs.YtdpmbgomcjnohaaGreatDoor
namespace Go.Proofs.YtdpmbgomcjnohaaGreatDoor
open Pl
open Go.RowKit
set_option linter.all false
set_option maxRecDepth 100000
set_option maxHeartbeats 8000000
theorem AY (w:World) (va vb:Value) (n m k:Nat) (ha:Un w va n) (hb:Un w vb m) (hn:(limbs n).length≤398) (hm:(limbs m).length≤398) (hk:n*m=k) :
  Calls Tryz.prog 128 #[va,vb] w fun e w'=>∃ u,e = .returned u∧Un w' u k∧Ext w w':=by
 have h0:=Lib.hid (nV w va vb n m k ha hb hn hm hk)
 clear ha hb hn hm hk
 go_enter Tryz.func128,Tryz.ntmps128
 go_wp2_with (fail)
 refine h0.out.mono ?_
 rintro e w1 ⟨u,rfl,hu,hB⟩
 have HF:Hid (∃ u',Ending.returned u = .returned u'∧Un w1 u' k∧Ext w w1):=⟨_,rfl,hu,hB⟩
 clear hu hB h0
 go_wp2
 go_ret
 exact HF.out
end Go.Proofs.YtdpmbgomcjnohaaGreatDoor
namespace Go.Proofs.YtdpmbgomcjnohaaGreatDoor
open Pl
open Go.RowKit
set_option linter.all false
set_option maxRecDepth 100000
set_option maxHeartbeats 8000000
theorem ace (w:World) (v:Value) (z:Int) (h:Zn w v z) (y:Int) (hy : -z=y) :
  Calls Tryz.prog 71 #[v] w fun e w'=>∃ u,e = .returned u∧Zn w' u y∧Ext w w':=by
 obtain ⟨b,A,L,c,n,rfl,hu,hL,hz,hb,hza,hzn⟩:=h.open
 have hE0:=((Ext.refl w).alloc (.cells #[.bool b,.slice A L c] 24)).alloc (.cells #[.bool false,.slice none 0 0] 24)
 have hI0:=Ib.new2 w (.cells #[.bool b,.slice A L c] 24) false (.slice none 0 0) 24
 have gY:=(Ib.new w b (.slice A L c) 24).ext ((Ext.refl _).alloc (.cells #[.bool false,.slice none 0 0] 24))
 have hu0:=hu.below hE0
 have hM:=Lib.hid (fun W h=>ow W (!b) (.slice A L c) (limbs n) h n (aH n) y (by rw [PM,← hz];exact hy))
 obtain ⟨p0,p1,p2,p3,p4⟩:=id gY
 clear hz hb hza hzn hL hy h
 go_enter Tryz.func71,Tryz.ntmps71
 go_wp2_with (go_at_call 86;refine (hM.out _ hu0).mono ?_;rintro e w2 ⟨u,rfl,hz2,hE2⟩;obtain ⟨b2,A2,L2,c2,rfl⟩:=hz2.sh;have hI2:=hI0.ext hE2;obtain ⟨i0,i1,i2,i3,i4⟩:=id hI2)
 (try simp only [Exit.inBlock,Exit.then])
 refine bodyPost_ret (v:=.agg #[.bool b2,.slice A2 L2 c2]) (show (results _ _).run _ _=_ from ?_) rfl ⟨_,rfl,hz2.bW hI2 (aM _ _ _) _ _,(hE0.below hE2).bW (by simp) _ _⟩
 simp only [results]
 go_simp
end Go.Proofs.YtdpmbgomcjnohaaGreatDoor
namespace Go.Proofs.YtdpmbgomcjnohaaGreatDoor
open Pl
open Go.RowKit
set_option linter.all false
set_option maxRecDepth 100000
set_option maxHeartbeats 8000000
theorem AZ {w X Y:World} {p:Bool} {mp:Value} (h:(w.heap.size+1<X.heap.size∧X.cell? ⟨w.heap.size,0,none⟩=some (.bool p)∧X.cell? ⟨w.heap.size,1,none⟩=some mp)∧Ext w X) (k:Ext X Y):(w.heap.size+1<Y.heap.size∧Y.cell? ⟨w.heap.size,0,none⟩=some (.bool p)∧Y.cell? ⟨w.heap.size,1,none⟩=some mp)∧Ext w Y:=by
 obtain ⟨⟨h0,h1,h2⟩,hx⟩:=h
 have hs:=k.size
 exact ⟨⟨by omega,(k.cell (p:=⟨w.heap.size,0,none⟩) (by show w.heap.size<_;omega)).trans h1,(k.cell (p:=⟨w.heap.size,1,none⟩) (by show w.heap.size<_;omega)).trans h2⟩,hx.below k⟩
theorem Bc {w X:World} {p:Bool} {mp x y:Value} (h:(w.heap.size+1<X.heap.size∧X.cell? ⟨w.heap.size,0,none⟩=some (.bool p)∧X.cell? ⟨w.heap.size,1,none⟩=some mp)∧Ext w X):(w.heap.size+1<((X.setCell ⟨w.heap.size+1,0,none⟩ x).setCell ⟨w.heap.size+1,1,none⟩ y).heap.size∧((X.setCell ⟨w.heap.size+1,0,none⟩ x).setCell ⟨w.heap.size+1,1,none⟩ y).cell? ⟨w.heap.size,0,none⟩=some (.bool p)∧((X.setCell ⟨w.heap.size+1,0,none⟩ x).setCell ⟨w.heap.size+1,1,none⟩ y).cell? ⟨w.heap.size,1,none⟩=some mp)∧Ext w ((X.setCell ⟨w.heap.size+1,0,none⟩ x).setCell ⟨w.heap.size+1,1,none⟩ y):=by
 obtain ⟨⟨h0,h1,h2⟩,hx⟩:=h
 have hc:∀ a:Addr,a.block≠w.heap.size+1→((X.setCell ⟨w.heap.size+1,0,none⟩ x).setCell ⟨w.heap.size+1,1,none⟩ y).cell? a=X.cell? a:=fun a ha=>by
  rw [World.cell?_setCell_other _ _ _ _ (fun e=>ha (by rw [← e])),World.cell?_setCell_other _ _ _ _ (fun e=>ha (by rw [← e]))]
 refine ⟨⟨by simpa using h0,?_,?_⟩,hx.bW (by omega) _ _⟩
 · rw [hc _ (by show w.heap.size≠_;omega)];exact h1
 · rw [hc _ (by show w.heap.size≠_;omega)];exact h2
theorem qG {w X Y:World} {p q:Bool} {mp mq:Value} (h:(w.heap.size+1+1<X.heap.size∧X.cell? ⟨w.heap.size,0,none⟩=some (.bool p)∧X.cell? ⟨w.heap.size,1,none⟩=some mp∧X.cell? ⟨w.heap.size+1,0,none⟩=some (.bool q)∧X.cell? ⟨w.heap.size+1,1,none⟩=some mq)∧Ext w X) (k:Ext X Y):(w.heap.size+1+1<Y.heap.size∧Y.cell? ⟨w.heap.size,0,none⟩=some (.bool p)∧Y.cell? ⟨w.heap.size,1,none⟩=some mp∧Y.cell? ⟨w.heap.size+1,0,none⟩=some (.bool q)∧Y.cell? ⟨w.heap.size+1,1,none⟩=some mq)∧Ext w Y:=by
 obtain ⟨⟨h0,h1,h2,h3,h4⟩,hx⟩:=h
 have hs:=k.size
 exact ⟨⟨by omega,(k.cell (p:=⟨w.heap.size,0,none⟩) (by show w.heap.size<_;omega)).trans h1,(k.cell (p:=⟨w.heap.size,1,none⟩) (by show w.heap.size<_;omega)).trans h2,(k.cell (p:=⟨w.heap.size+1,0,none⟩) (by show w.heap.size+1<_;omega)).trans h3,(k.cell (p:=⟨w.heap.size+1,1,none⟩) (by show w.heap.size+1<_;omega)).trans h4⟩,hx.below k⟩
theorem qH {w X:World} {p q:Bool} {mp mq x y:Value} (h:(w.heap.size+1+1<X.heap.size∧X.cell? ⟨w.heap.size,0,none⟩=some (.bool p)∧X.cell? ⟨w.heap.size,1,none⟩=some mp∧X.cell? ⟨w.heap.size+1,0,none⟩=some (.bool q)∧X.cell? ⟨w.heap.size+1,1,none⟩=some mq)∧Ext w X):(w.heap.size+1+1<((X.setCell ⟨w.heap.size+1+1,0,none⟩ x).setCell ⟨w.heap.size+1+1,1,none⟩ y).heap.size∧((X.setCell ⟨w.heap.size+1+1,0,none⟩ x).setCell ⟨w.heap.size+1+1,1,none⟩ y).cell? ⟨w.heap.size,0,none⟩=some (.bool p)∧((X.setCell ⟨w.heap.size+1+1,0,none⟩ x).setCell ⟨w.heap.size+1+1,1,none⟩ y).cell? ⟨w.heap.size,1,none⟩=some mp∧((X.setCell ⟨w.heap.size+1+1,0,none⟩ x).setCell ⟨w.heap.size+1+1,1,none⟩ y).cell? ⟨w.heap.size+1,0,none⟩=some (.bool q)∧((X.setCell ⟨w.heap.size+1+1,0,none⟩ x).setCell ⟨w.heap.size+1+1,1,none⟩ y).cell? ⟨w.heap.size+1,1,none⟩=some mq)∧Ext w ((X.setCell ⟨w.heap.size+1+1,0,none⟩ x).setCell ⟨w.heap.size+1+1,1,none⟩ y):=by
 obtain ⟨⟨h0,h1,h2,h3,h4⟩,hx⟩:=h
 have hc:∀ a:Addr,a.block≠w.heap.size+1+1→((X.setCell ⟨w.heap.size+1+1,0,none⟩ x).setCell ⟨w.heap.size+1+1,1,none⟩ y).cell? a=X.cell? a:=fun a ha=>by
  rw [World.cell?_setCell_other _ _ _ _ (fun e=>ha (by rw [← e])),World.cell?_setCell_other _ _ _ _ (fun e=>ha (by rw [← e]))]
 refine ⟨⟨by simpa using h0,?_,?_,?_,?_⟩,hx.bW (by omega) _ _⟩
 · rw [hc _ (by show w.heap.size≠_;omega)];exact h1
 · rw [hc _ (by show w.heap.size≠_;omega)];exact h2
 · rw [hc _ (by show w.heap.size+1≠_;omega)];exact h3
 · rw [hc _ (by show w.heap.size+1≠_;omega)];exact h4
end Go.Proofs.YtdpmbgomcjnohaaGreatDoor
namespace Go.Proofs.YtdpmbgomcjnohaaGreatDoor
open Pl
open Go.RowKit
set_option linter.all false
set_option maxRecDepth 100000
set_option maxHeartbeats 8000000
section
variable {P:Program} {T:TypeId} {x y:Operand} {a b:Nat} {za zb:Int}
theorem vw (h0:b≠0) (_:a≤a) (X:World):Bn P .rem T x y (.int .u32 ((a:Nat):Int)) (.int .u32 ((b:Nat):Int)) X = .ok (.int .u32 ((a%b:Nat):Int)) X:=AR (by omega) (Int.ofNat_tmod a b).symm X
theorem j5 (h0:b≠0) (_:a≤a) (X:World):Bn P .rem T x y (.int .i64 ((a:Nat):Int)) (.int .i64 ((b:Nat):Int)) X = .ok (.int .i64 ((a%b:Nat):Int)) X:=AR (by omega) (Int.ofNat_tmod a b).symm X
end
theorem Nw {A:Option Addr} {h c s:Nat}:H6 A 0 h c s = .slice A h c:=by
 unfold H6
 rw [Nat.zero_mul]
 have e:∀ a:Addr,a.add 0=a:=fun a=>by simp [Addr.add]
 cases A<;>simp [e]
section
variable {P:Program} {L:List Oper} {S:World→Prop} {K:List (Nat × Value)→World→Prop} {kk:Bool} {i m d:Nat} {o:Oper} {x y:Operand} {r:List (Bool × Nat × Nat)} {l:List (Nat × Value)} {w:World} {k:IntKind} {a b:Nat}
theorem Zq {t:Array TypeId} {c:Nat} (hc:min a b=c) (hS:S w) (ho:Pl.nth L i=some o) (hop:o.op = .call { callee:=.builtin .min,args:=#[x,y],argTypes:=t }) (hd:o.dst=some d) (hg:gd L l o.guard=some true) (hx:dA l x=some (.int k ((a:Nat):Int))) (hy:dA l y=some (.int k ((b:Nat):Int)))
  (h:gM P L S K r ((d,.int k ((c:Nat):Int))::l) w):gM P L S K ((kk,i,m)::r) l w :=
 iC hS ho hd hg (fun ρ hρ X _=>by
  subst hc
  unfold execOp;rw [hop]
  refine dK (Builtin.min_ _ _ (#[x,y].map ρ)) X ?_
  rw [show #[x,y].map ρ=#[.int k (a:Int),.int k (b:Int)] from by simp [hρ.dA hx,hρ.dA hy]]
  have e:((min a b:Nat):Int)=if (b:Int)<(a:Int) then (b:Int) else (a:Int):=by split<;>omega
  rw [e]
  exact run_min_int2 _ _ _ _ _ _ _) h
end
end Go.Proofs.YtdpmbgomcjnohaaGreatDoor
namespace Go.Proofs.YtdpmbgomcjnohaaGreatDoor.Dy
open Pl
set_option linter.all false
set_option maxRecDepth 100000
set_option maxHeartbeats 8000000
theorem Zr {q:Rat} {j:Nat} (h:q.den=2^j):dv q.num (-(j:Int))=q:=by
 rw [vE,← h,Rat.mkRat_self]
theorem x8 (n:Int):(2:Rat)^n*2^(-n)=1:=by rw [← pE,Int.add_right_neg];rfl
end Go.Proofs.YtdpmbgomcjnohaaGreatDoor.Dy
namespace Go.Proofs.YtdpmbgomcjnohaaGreatDoor.Rq
open Pl
set_option linter.all false
set_option maxRecDepth 100000
set_option maxHeartbeats 8000000
theorem rV {a b:Rat}:a<b↔a.num*b.den<b.num*a.den:=Rat.lt_iff a b
theorem cmp_eq {a b:Rat}:a=b↔a.num*b.den=b.num*a.den:=Rat.eq_iff_mul_eq_mul
theorem Bf (a b:Rat):Rat.divInt (a.num*b.den+b.num*a.den) ((a.den*b.den:Nat):Int)=a+b:=by rw [Rat.divInt_ofNat,Rat.add_def']
theorem Bg (a b:Rat):Rat.divInt (a.num*b.num) ((a.den*b.den:Nat):Int)=a*b:=by rw [Rat.divInt_ofNat,Rat.mul_def']
end Go.Proofs.YtdpmbgomcjnohaaGreatDoor.Rq
namespace Go.Proofs.YtdpmbgomcjnohaaGreatDoor
open Pl
open Go.RowKit
set_option linter.all false
set_option maxRecDepth 100000
set_option maxHeartbeats 8000000
section
variable {P:Program} {T:TypeId} {x y:Operand} {a b:Int}
theorem xe (h:a≤b) (X:World):Bn P .leq T x y (.int .i64 a) (.int .i64 b) X = .ok (.bool true) X:=Hl (decide_eq_true h) X
theorem BP (h:¬ a≤b) (X:World):Bn P .leq T x y (.int .i64 a) (.int .i64 b) X = .ok (.bool false) X:=Hl (decide_eq_false h) X
end
section
variable {n:Nat} {cs:List Code} {l:List (Nat × Value)} {w:World} {fn:Func} {R:Ending→World→Prop}
theorem Pl.JS {t t2:Tmp} {N N2:Nat} {T T2 ty ty2:TypeId} {vs vs2:List Value} {d d2:TypeDesc} (hr:fn.results=#[.cell t ty,.cell t2 ty2]) (hv:look l t=some (.pointer (some ⟨N,0,none⟩))) (hv2:look l t2=some (.pointer (some ⟨N2,0,none⟩)))
  (hC:Pl.Cb w N T vs) (hu:Tryz.prog.underlying ty=some d) (hd:d.isRow=true) (hi:(Tryz.prog.info? ty).map (·.size)=some vs.length) (hC2:Pl.Cb w N2 T2 vs2) (hu2:Tryz.prog.underlying ty2=some d2) (hd2:d2.isRow=true) (hi2:(Tryz.prog.info? ty2).map (·.size)=some vs2.length)
  (h:R (.returned (.tuple #[.agg vs.toArray,.agg vs2.toArray])) w):Pl.V Tryz.prog (bodyPost Tryz.prog fn R) n [] (.ret::cs) l w:=Ef fun a ha=>by
 refine ⟨ha.defers,_,?_,h⟩
 unfold results
 rw [hr]
 have e:a.tmps.getD t undef = .pointer (some ⟨N,0,none⟩):=by rw [Array.getD_eq_getD_getElem?,ha.look t _ hv];rfl
 have e2:a.tmps.getD t2 undef = .pointer (some ⟨N2,0,none⟩):=by rw [Array.getD_eq_getD_getElem?,ha.look t2 _ hv2];rfl
 have hl:=hC.load (o:=0) (part:=vs) (by simp) hu hd hi
 have hl2:=hC2.load (o:=0) (part:=vs2) (by simp) hu2 hd2 hi2
 simp only [Instr.loadAt,Instr.sureAddr,Sem.run_bind,Sem.run_pure,Result.andThen_ok] at hl hl2
 simp only [List.mapM_toArray,List.mapM_cons,List.mapM_nil,e,e2,asAddr,Sem.run_bind,Sem.run_pure,Result.andThen_ok]
 simp [hl,hl2,Sem.run_bind,Result.andThen]
end
end Go.Proofs.YtdpmbgomcjnohaaGreatDoor
namespace Go.Proofs.YtdpmbgomcjnohaaGreatDoor
open Pl
open Go.RowKit
set_option linter.all false
set_option maxRecDepth 100000
set_option maxHeartbeats 8000000
theorem x9 (p q:Bool) (n m:Nat):sg (!(p==q)) (n*m)=sg p n*sg q m:=by
 cases p<;>cases q<;>simp [sg,Int.mul_neg,Int.neg_mul]
theorem acf (w:World) (va vb:Value) (a b:Int) (ha:Zn w va a) (hb:Zn w vb b) (hl:(limbs a.natAbs).length≤398) (hl2:(limbs b.natAbs).length≤398) (y:Int) (hy:a*b=y) :
  Calls Tryz.prog 76 #[va,vb] w fun e w'=>∃ u,e = .returned u∧Zn w' u y∧Ext w w':=by
 obtain ⟨p,A,L,c,n,rfl,hu,hL,hz,-,hza,hzn⟩:=ha.open
 obtain ⟨q,B,K,d,m,rfl,hv,hK,hz2,-,jr,lK⟩:=hb.open
 rw [hza] at hl
 rw [jr] at hl2
 obtain ⟨k,hk⟩:∃ k,n*m=k:=⟨_,rfl⟩
 have hM:=Lib.hid (fun W h g=>mulN W (.slice A L c) (.slice B K d) n m k h g hl hl2 hk)
 have Pg:=Lib.hid (fun W v (h:Un W v k)=>ow W (!(p==q)) v (limbs k) h k (aH _) y (by rw [← hk,x9,← hz,← hz2];exact hy))
 have hE0:=((((Ext.refl w).alloc (.cells #[.bool p,.slice A L c] 24)).alloc (.cells #[.bool q,.slice B K d] 24)).alloc (.cells #[.bool false,.slice none 0 0] 24)).drew
 have hI0:=(Ib.rW w (.cells #[.bool p,.slice A L c] 24) (.cells #[.bool q,.slice B K d] 24) false (.slice none 0 0) 24).ext (Ext.refl _).drew
 have gY:=(Ib.new w p (.slice A L c) 24).ext ((((Ext.refl _).alloc (.cells #[.bool q,.slice B K d] 24)).alloc (.cells #[.bool false,.slice none 0 0] 24)).drew)
 have nY:=(Ib.new2 w (.cells #[.bool p,.slice A L c] 24) q (.slice B K d) 24).ext (((Ext.refl _).alloc (.cells #[.bool false,.slice none 0 0] 24)).drew)
 have hu0:=hu.below hE0
 have hv0:=hv.below hE0
 obtain ⟨p0,p1,p2,p3,p4⟩:=id gY
 obtain ⟨q0,q1,q2,q3,q4⟩:=id nY
 clear hl hl2 hza hzn jr lK hz hz2 hL hK ha hb hy hk
 go_enter Tryz.func76,Tryz.ntmps76
 have hS0:(w.heap.size+1+1<(((w.alloc (.cells #[.bool p,.slice A L c] 24)).alloc (.cells #[.bool q,.slice B K d] 24)).alloc (.cells #[.bool false,.slice none 0 0] 24)).drew.heap.size∧(((w.alloc (.cells #[.bool p,.slice A L c] 24)).alloc (.cells #[.bool q,.slice B K d] 24)).alloc (.cells #[.bool false,.slice none 0 0] 24)).drew.cell? ⟨w.heap.size,0,none⟩=some (.bool p)∧(((w.alloc (.cells #[.bool p,.slice A L c] 24)).alloc (.cells #[.bool q,.slice B K d] 24)).alloc (.cells #[.bool false,.slice none 0 0] 24)).drew.cell? ⟨w.heap.size,1,none⟩=some (.slice A L c)∧(((w.alloc (.cells #[.bool p,.slice A L c] 24)).alloc (.cells #[.bool q,.slice B K d] 24)).alloc (.cells #[.bool false,.slice none 0 0] 24)).drew.cell? ⟨w.heap.size+1,0,none⟩=some (.bool q)∧(((w.alloc (.cells #[.bool p,.slice A L c] 24)).alloc (.cells #[.bool q,.slice B K d] 24)).alloc (.cells #[.bool false,.slice none 0 0] 24)).drew.cell? ⟨w.heap.size+1,1,none⟩=some (.slice B K d))∧Ext w (((w.alloc (.cells #[.bool p,.slice A L c] 24)).alloc (.cells #[.bool q,.slice B K d] 24)).alloc (.cells #[.bool false,.slice none 0 0] 24)).drew:=⟨⟨by simp,p1,p2,q1,q2⟩,hE0⟩
 clear p0 p1 p2 p3 p4 q0 q1 q2 q3 q4
 go_wp2
 go_region_held3 (fun X=>(w.heap.size+1+1<X.heap.size∧X.cell? ⟨w.heap.size,0,none⟩=some (.bool p)∧X.cell? ⟨w.heap.size,1,none⟩=some (.slice A L c)∧X.cell? ⟨w.heap.size+1,0,none⟩=some (.bool q)∧X.cell? ⟨w.heap.size+1,1,none⟩=some (.slice B K d))∧Ext w X)
  (first
   | exact hS0
   | exact qG (by assumption) (by assumption)
   | exact qH (by assumption))
  (first
   | (go_at_call 115;((with_reducible refine (hM.out _ hu0 hv0).mono ?_);rintro e w2 ⟨u,rfl,hu2,hE2⟩;obtain ⟨A2,c2,rfl,hc2⟩:=Un.sh hu2))
   | (go_at_call 86;((with_reducible refine (Pg.out _ _ hu2).mono ?_);rintro e w3 ⟨u,rfl,hz3,aJ⟩;obtain ⟨b3,A3,L3,c3,rfl⟩:=hz3.sh;have jl:=(hI0.ext hE2).ext aJ;obtain ⟨i0,i1,i2,i3,i4⟩:=id jl)))
 clear jl hM Pg
 go_wp2
 (try simp only [Exit.inBlock,Exit.then])
 refine bodyPost_ret (v:=.agg #[.bool b3,.slice A3 L3 c3]) (show (results _ _).run _ _=_ from ?_) rfl ⟨_,rfl,hz3.bW ((hI0.ext hE2).ext aJ) (aM _ _ _) _ _,((hE0.below hE2).below aJ).bW (by omega) _ _⟩
 simp only [results]
 go_simp
end Go.Proofs.YtdpmbgomcjnohaaGreatDoor
namespace Go.Proofs.YtdpmbgomcjnohaaGreatDoor
open Pl
open Go.RowKit
set_option linter.all false
set_option maxRecDepth 100000
set_option maxHeartbeats 8000000
theorem Ae (w:World) (v:Value) (b:Bool) (xs:List Nat) (h:Ri w v b xs) (r:Bool) (hr:(eO xs&&!(b&&decide (xs.length=0)))=r) :
  Calls Tryz.prog 61 #[v] w fun e w'=>e = .returned (.bool r)∧Ext w w':=by
 obtain ⟨A,c,rfl,hu⟩:=h
 have hE0:=(Ext.refl w).alloc (.cells #[.bool b,.slice A xs.length c] 24)
 have gY:=Ib.new w b (.slice A xs.length c) 24
 have hu0:=hu.below hE0
 obtain ⟨q,hq⟩:∃ q,eO xs=q:=⟨_,rfl⟩
 have hR:=Lib.hid (BN _ _ xs hu0 q hq)
 rw [hq] at hr
 obtain ⟨L,hL⟩:∃ L,xs.length=L:=⟨_,rfl⟩
 rw [hL] at hr hR gY hE0 ⊢
 clear hq hL hu0 hu
 by_cases h0:L=0
 · subst h0
   cases b<;>cases q
   all_goals (
    subst hr
    go_enter Tryz.func61,Tryz.ntmps61
    go_wp2_with (go_at_call 99;refine hR.out.mono ?_;rintro e w2 ⟨rfl,hE2⟩;obtain ⟨p0,p1,p2,p3,p4⟩:=gY.ext hE2)
    go_ret
    exact ⟨by first | rfl | simp,hE0.below hE2⟩)
 · have h3:(0:Int)<(L:Int):=by omega
   have h4:0<L:=by omega
   rw [decide_eq_false h0] at hr
   cases b<;>cases q
   all_goals (
    subst hr
    go_enter Tryz.func61,Tryz.ntmps61
    go_wp2_with (go_at_call 99;refine hR.out.mono ?_;rintro e w2 ⟨rfl,hE2⟩;obtain ⟨p0,p1,p2,p3,p4⟩:=gY.ext hE2)
    go_ret
    exact ⟨by first | rfl | simp,hE0.below hE2⟩)
theorem Bh (w:World) (v:Value) (z:Int) (h:Zn w v z) (hl:(limbs z.natAbs).length≤1000000) (k:Int) (hk:Int.sign z=k) :
  Calls Tryz.prog 52 #[v] w fun e w'=>e = .returned (.int .i64 k)∧Ext w w':=by
 have hk2:bZ z 0=k:=by
  rw [← hk]
  unfold bZ
  rcases Int.lt_trichotomy z 0 with h | h | h
  · rw [if_pos h,Int.sign_eq_neg_one_of_neg h]
  · subst h;rfl
  · rw [if_neg (by omega),if_pos h,Int.sign_eq_one_of_pos h]
 have h':=h
 obtain ⟨p,A,L,c,rfl⟩:=h.sh
 have hE0:=(Ext.refl w).alloc (.cells #[.bool p,.slice A L c] 24)
 have hC:=Lib.hid (Bi _ _ _ z 0 (h'.below hE0) (Zn.zero _ none 0) hl (by rw [show Int.natAbs 0=0 from rfl,aX];decide) k hk2)
 clear hk hk2 hl h h'
 go_enter Tryz.func52,Tryz.ntmps52
 go_wp2_with (go_at_call 89;refine hC.out.mono ?_;rintro e w2 ⟨rfl,hE2⟩)
 go_ret
 exact ⟨rfl,hE0.below hE2⟩
end Go.Proofs.YtdpmbgomcjnohaaGreatDoor
namespace Go.Proofs.YtdpmbgomcjnohaaGreatDoor
open Pl
open Go.RowKit
set_option linter.all false
set_option maxRecDepth 100000
set_option maxHeartbeats 8000000
theorem nX (w:World) (p:Bool) (A B:Option Addr) (L K c d n m:Nat) (hu:Un w (.slice A L c) n) (hv:Un w (.slice B K d) m) (hl:(limbs n).length≤1000000) (hl2:(limbs m).length≤1000000) (y:Int) (hy:sg p (n+m)=y) :
  Calls Tryz.prog 55 #[.agg #[.bool p,.slice A L c],.agg #[.bool p,.slice B K d]] w fun e w'=>∃ u,e = .returned u∧Zn w' u y∧Ext w w':=by
 have hE0:=((((Ext.refl w).alloc (.cells #[.bool p,.slice A L c] 24)).alloc (.cells #[.bool p,.slice B K d] 24)).alloc (.cells #[.bool false,.slice none 0 0] 24)).drew
 have hI0:=(Ib.rW w (.cells #[.bool p,.slice A L c] 24) (.cells #[.bool p,.slice B K d] 24) false (.slice none 0 0) 24).ext (Ext.refl _).drew
 have gY:=(Ib.new w p (.slice A L c) 24).ext ((((Ext.refl _).alloc (.cells #[.bool p,.slice B K d] 24)).alloc (.cells #[.bool false,.slice none 0 0] 24)).drew)
 have nY:=(Ib.new2 w (.cells #[.bool p,.slice A L c] 24) p (.slice B K d) 24).ext (((Ext.refl _).alloc (.cells #[.bool false,.slice none 0 0] 24)).drew)
 have hS0:(w.heap.size+1+1<(((w.alloc (.cells #[.bool p,.slice A L c] 24)).alloc (.cells #[.bool p,.slice B K d] 24)).alloc (.cells #[.bool false,.slice none 0 0] 24)).drew.heap.size∧(((w.alloc (.cells #[.bool p,.slice A L c] 24)).alloc (.cells #[.bool p,.slice B K d] 24)).alloc (.cells #[.bool false,.slice none 0 0] 24)).drew.cell? ⟨w.heap.size,0,none⟩=some (.bool p)∧(((w.alloc (.cells #[.bool p,.slice A L c] 24)).alloc (.cells #[.bool p,.slice B K d] 24)).alloc (.cells #[.bool false,.slice none 0 0] 24)).drew.cell? ⟨w.heap.size,1,none⟩=some (.slice A L c)∧(((w.alloc (.cells #[.bool p,.slice A L c] 24)).alloc (.cells #[.bool p,.slice B K d] 24)).alloc (.cells #[.bool false,.slice none 0 0] 24)).drew.cell? ⟨w.heap.size+1,0,none⟩=some (.bool p)∧(((w.alloc (.cells #[.bool p,.slice A L c] 24)).alloc (.cells #[.bool p,.slice B K d] 24)).alloc (.cells #[.bool false,.slice none 0 0] 24)).drew.cell? ⟨w.heap.size+1,1,none⟩=some (.slice B K d))∧Ext w (((w.alloc (.cells #[.bool p,.slice A L c] 24)).alloc (.cells #[.bool p,.slice B K d] 24)).alloc (.cells #[.bool false,.slice none 0 0] 24)).drew:=⟨⟨by simp,gY.2.1,gY.2.2.1,nY.2.1,nY.2.2.1⟩,hE0⟩
 have hu0:=hu.below hE0
 have hv0:=hv.below hE0
 have hsl:(limbs (n+m)).length≤1000000000:=by
  have h1:=cO hl
  have h2:=cO hl2
  refine Nat.le_trans (iO (k:=1000000+1) ?_) (by omega)
  obtain ⟨E,hE⟩:∃ E,1000000=E:=⟨_,rfl⟩
  rw [hE] at h1 h2 ⊢
  rw [Nat.pow_succ]
  have:LB^E*2≤LB^E*LB:=Nat.mul_le_mul_left _ (by unfold LB;decide)
  unfold LB at *
  omega
 have hA:=Lib.hid (fun W h g=>EO W (.slice A L c) (.slice B K d) n m h g (by omega) (by omega) _ rfl)
 have hM:=Lib.hid (fun W v (h:Un W v (n+m))=>eY W p v (limbs (n+m)) h hsl _ (aH _) y hy)
 clear hl hl2 hu hv hy gY nY hsl
 all_goals (
  go_enter Tryz.func55,Tryz.ntmps55
  go_wp2
  go_region_held3 (fun X=>(w.heap.size+1+1<X.heap.size∧X.cell? ⟨w.heap.size,0,none⟩=some (.bool p)∧X.cell? ⟨w.heap.size,1,none⟩=some (.slice A L c)∧X.cell? ⟨w.heap.size+1,0,none⟩=some (.bool p)∧X.cell? ⟨w.heap.size+1,1,none⟩=some (.slice B K d))∧Ext w X)
   (first
    | assumption
    | exact hS0
    | exact qG (by assumption) (by assumption)
    | exact qH (by assumption))
   (first
    | (go_at_call 95;((with_reducible refine (hA.out _ hu0 hv0).mono ?_);rintro e w2 ⟨u,rfl,hu2,hE2⟩;obtain ⟨A2,c2,rfl,-⟩:=Un.sh hu2))
    | (go_at_call 62;((with_reducible refine (hM.out _ _ hu2).mono ?_);rintro e w3 ⟨u,rfl,hz3,aJ⟩;obtain ⟨b3,A3,L3,c3,rfl⟩:=hz3.sh;have jl:=(hI0.ext hE2).ext aJ;obtain ⟨i0,i1,i2,i3,i4⟩:=id jl)))
  clear jl hA hM
  go_wp2
  (try simp only [Exit.inBlock,Exit.then])
  refine bodyPost_ret (v:=.agg #[.bool b3,.slice A3 L3 c3]) (show (results _ _).run _ _=_ from ?_) rfl ⟨_,rfl,hz3.bW ((hI0.ext hE2).ext aJ) (aM _ _ _) _ _,((hE0.below hE2).below aJ).bW (by omega) _ _⟩
  simp only [results]
  go_simp)
theorem mF (w:World) (p:Bool) (A B:Option Addr) (L K c d n m:Nat) (hu:Un w (.slice A L c) n) (hv:Un w (.slice B K d) m) (hl:(limbs n).length≤1000000) (hl2:(limbs m).length≤1000000) (y:Int) (hy:(if m≤n then sg p (n-m) else sg (!p) (m-n))=y) :
  Calls Tryz.prog 55 #[.agg #[.bool p,.slice A L c],.agg #[.bool (!p),.slice B K d]] w fun e w'=>∃ u,e = .returned u∧Zn w' u y∧Ext w w':=by
 have hE0:=(((Ext.refl w).alloc (.cells #[.bool p,.slice A L c] 24)).alloc (.cells #[.bool (!p),.slice B K d] 24)).alloc (.cells #[.bool false,.slice none 0 0] 24)
 have hI0:=Ib.rW w (.cells #[.bool p,.slice A L c] 24) (.cells #[.bool (!p),.slice B K d] 24) false (.slice none 0 0) 24
 have gY:=(Ib.new w p (.slice A L c) 24).ext (((Ext.refl _).alloc (.cells #[.bool (!p),.slice B K d] 24)).alloc (.cells #[.bool false,.slice none 0 0] 24))
 have nY:=(Ib.new2 w (.cells #[.bool p,.slice A L c] 24) (!p) (.slice B K d) 24).ext ((Ext.refl _).alloc (.cells #[.bool false,.slice none 0 0] 24))
 have hu0:=hu.below hE0
 have hv0:=hv.below hE0
 obtain ⟨d1,hd1⟩:∃ d,n-m=d:=⟨_,rfl⟩
 obtain ⟨d2,hd2⟩:∃ d,m-n=d:=⟨_,rfl⟩
 have hl3:(limbs d1).length≤1000000000:=by have:=fC (show d1≤n by omega);omega
 have hl4:(limbs d2).length≤1000000000:=by have:=fC (show d2≤m by omega);omega
 rw [hd1,hd2] at hy
 by_cases h0:m≤n
 · rw [if_pos h0] at hy
   have hA:=Lib.hid (fun W h g=>pF W (.slice A L c) (.slice B K d) n m h g (by omega) (by omega) true (decide_eq_true h0) d1 hd1)
   have hM:=Lib.hid (fun W v (h:Un W v d1)=>eY W p v (limbs d1) h hl3 _ (aH _) y hy)
   clear hl hl2 hu hv hy hl3 hl4 hd1 hd2 h0
   cases p
   all_goals (
    go_enter Tryz.func55,Tryz.ntmps55
    go_wp2_with (first
     | (go_at_call 96;refine (hA.out _ hu0 hv0).mono ?_;rintro e w2 ⟨u,rfl,hu2,hE2⟩;obtain ⟨A2,c2,rfl,-⟩:=Un.sh hu2;obtain ⟨p0,p1,p2,p3,p4⟩:=gY.ext hE2;obtain ⟨q0,q1,q2,q3,q4⟩:=nY.ext hE2)
     | (go_at_call 62;refine (hM.out _ _ hu2).mono ?_;rintro e w3 ⟨u,rfl,hz3,aJ⟩;obtain ⟨b3,A3,L3,c3,rfl⟩:=hz3.sh;have jl:=(hI0.ext hE2).ext aJ;obtain ⟨i0,i1,i2,i3,i4⟩:=id jl))
    (try simp only [Exit.inBlock,Exit.then])
    refine bodyPost_ret (v:=.agg #[.bool b3,.slice A3 L3 c3]) (show (results _ _).run _ _=_ from ?_) rfl ⟨_,rfl,hz3.bW ((hI0.ext hE2).ext aJ) (aM _ _ _) _ _,((hE0.below hE2).below aJ).bW (by omega) _ _⟩
    simp only [results]
    go_simp)
 · rw [if_neg h0] at hy
   have hA:=Lib.hid (fun W h g=>pF W (.slice A L c) (.slice B K d) n m h g (by omega) (by omega) false (decide_eq_false h0) d1 hd1)
   have hA2:=Lib.hid (fun W h g=>pF W (.slice B K d) (.slice A L c) m n h g (by omega) (by omega) _ rfl d2 hd2)
   have hM:=Lib.hid (fun W v (h:Un W v d2)=>eY W (!p) v (limbs d2) h hl4 _ (aH _) y hy)
   clear hl hl2 hu hv hy hl3 hl4 hd1 hd2 h0
   cases p
   all_goals (
    go_enter Tryz.func55,Tryz.ntmps55
    go_upto_region 6 with (go_at_call 96;refine (hA.out _ hu0 hv0).mono ?_;rintro e w2 ⟨u,rfl,hu2,hE2⟩;obtain ⟨A2,c2,rfl,-⟩:=Un.sh hu2;obtain ⟨p0,p1,p2,p3,p4⟩:=gY.ext hE2;obtain ⟨q0,q1,q2,q3,q4⟩:=nY.ext hE2)
    go_wp2_with (first
     | (go_at_call 96;refine (hA2.out _ (Un.below hv0 hE2) (Un.below hu0 hE2)).mono ?_;rintro e w4 ⟨u,rfl,D5,aP⟩;obtain ⟨A4,c4,rfl,-⟩:=Un.sh D5;obtain ⟨p0,p1,p2,p3,p4⟩:=(gY.ext hE2).ext aP;obtain ⟨q0,q1,q2,q3,q4⟩:=(nY.ext hE2).ext aP)
     | (go_at_call 62;refine (hM.out _ _ D5).mono ?_;rintro e w3 ⟨u,rfl,hz3,aJ⟩;obtain ⟨b3,A3,L3,c3,rfl⟩:=hz3.sh;have jl:=((hI0.ext hE2).ext aP).ext aJ;obtain ⟨i0,i1,i2,i3,i4⟩:=id jl))
    (try simp only [Exit.inBlock,Exit.then])
    refine bodyPost_ret (v:=.agg #[.bool b3,.slice A3 L3 c3]) (show (results _ _).run _ _=_ from ?_) rfl ⟨_,rfl,hz3.bW (((hI0.ext hE2).ext aP).ext aJ) (aM _ _ _) _ _,(((hE0.below hE2).below aP).below aJ).bW (by omega) _ _⟩
    simp only [results]
    go_simp)
theorem GX (w:World) (va vb:Value) (a b:Int) (ha:Zn w va a) (hb:Zn w vb b) (hl:(limbs a.natAbs).length≤1000000) (hl2:(limbs b.natAbs).length≤1000000) (y:Int) (hy:a+b=y) :
  Calls Tryz.prog 55 #[va,vb] w fun e w'=>∃ u,e = .returned u∧Zn w' u y∧Ext w w':=by
 obtain ⟨p,A,L,c,n,rfl,hu,hL,hz,-,hza,hzn⟩:=ha.open
 obtain ⟨q,B,K,d,m,rfl,hv,hK,hz2,-,jr,lK⟩:=hb.open
 rw [hza] at hl
 rw [jr] at hl2
 rw [hz,hz2] at hy
 by_cases h:q=p
 · subst h
   exact nX w q A B L K c d n m hu hv hl hl2 y ((mG _ _ _).trans hy)
 · obtain rfl:q = !p:=by cases p<;>cases q<;>first | rfl | exact absurd rfl h
   exact mF w p A B L K c d n m hu hv hl hl2 y ((kW _ _ _).trans hy)
theorem jA (w:World) (va vb:Value) (a b:Int) (ha:Zn w va a) (hb:Zn w vb b) (hl:(limbs a.natAbs).length≤398) (hl2:(limbs b.natAbs).length≤398) (y:Int) (hy:a*b=y) :
  Calls Tryz.prog 91 #[va,vb] w fun e w'=>∃ u,e = .returned u∧Zn w' u y∧Ext w w':=by
 obtain ⟨p,A,L,c,n,rfl,hu,hL,hz,-,hza,hzn⟩:=ha.open
 obtain ⟨q,B,K,d,m,rfl,hv,hK,hz2,-,jr,lK⟩:=hb.open
 rw [hza] at hl
 rw [jr] at hl2
 obtain ⟨k,hk⟩:∃ k,n*m=k:=⟨_,rfl⟩
 have hM:=Lib.hid (fun W h g=>AY W (.slice A L c) (.slice B K d) n m k h g hl hl2 hk)
 have hkl:(limbs k).length≤1000000000:=by
  have:=qI n m
  rw [hk] at this
  omega
 have Pg:=Lib.hid (fun W v (h:Un W v k)=>eY W (!(p==q)) v (limbs k) h hkl k (aH _) y (by rw [← hk,x9,← hz,← hz2];exact hy))
 have hE0:=((((Ext.refl w).alloc (.cells #[.bool p,.slice A L c] 24)).alloc (.cells #[.bool q,.slice B K d] 24)).alloc (.cells #[.bool false,.slice none 0 0] 24)).drew
 have hI0:=(Ib.rW w (.cells #[.bool p,.slice A L c] 24) (.cells #[.bool q,.slice B K d] 24) false (.slice none 0 0) 24).ext (Ext.refl _).drew
 have gY:=(Ib.new w p (.slice A L c) 24).ext ((((Ext.refl _).alloc (.cells #[.bool q,.slice B K d] 24)).alloc (.cells #[.bool false,.slice none 0 0] 24)).drew)
 have nY:=(Ib.new2 w (.cells #[.bool p,.slice A L c] 24) q (.slice B K d) 24).ext (((Ext.refl _).alloc (.cells #[.bool false,.slice none 0 0] 24)).drew)
 have hu0:=hu.below hE0
 have hv0:=hv.below hE0
 obtain ⟨p0,p1,p2,p3,p4⟩:=id gY
 obtain ⟨q0,q1,q2,q3,q4⟩:=id nY
 clear hl hl2 hza hzn jr lK hz hz2 hL hK ha hb hy hk
 go_enter Tryz.func91,Tryz.ntmps91
 have hS0:(w.heap.size+1+1<(((w.alloc (.cells #[.bool p,.slice A L c] 24)).alloc (.cells #[.bool q,.slice B K d] 24)).alloc (.cells #[.bool false,.slice none 0 0] 24)).drew.heap.size∧(((w.alloc (.cells #[.bool p,.slice A L c] 24)).alloc (.cells #[.bool q,.slice B K d] 24)).alloc (.cells #[.bool false,.slice none 0 0] 24)).drew.cell? ⟨w.heap.size,0,none⟩=some (.bool p)∧(((w.alloc (.cells #[.bool p,.slice A L c] 24)).alloc (.cells #[.bool q,.slice B K d] 24)).alloc (.cells #[.bool false,.slice none 0 0] 24)).drew.cell? ⟨w.heap.size,1,none⟩=some (.slice A L c)∧(((w.alloc (.cells #[.bool p,.slice A L c] 24)).alloc (.cells #[.bool q,.slice B K d] 24)).alloc (.cells #[.bool false,.slice none 0 0] 24)).drew.cell? ⟨w.heap.size+1,0,none⟩=some (.bool q)∧(((w.alloc (.cells #[.bool p,.slice A L c] 24)).alloc (.cells #[.bool q,.slice B K d] 24)).alloc (.cells #[.bool false,.slice none 0 0] 24)).drew.cell? ⟨w.heap.size+1,1,none⟩=some (.slice B K d))∧Ext w (((w.alloc (.cells #[.bool p,.slice A L c] 24)).alloc (.cells #[.bool q,.slice B K d] 24)).alloc (.cells #[.bool false,.slice none 0 0] 24)).drew:=⟨⟨by simp,p1,p2,q1,q2⟩,hE0⟩
 clear p0 p1 p2 p3 p4 q0 q1 q2 q3 q4
 go_wp2
 go_region_held3 (fun X=>(w.heap.size+1+1<X.heap.size∧X.cell? ⟨w.heap.size,0,none⟩=some (.bool p)∧X.cell? ⟨w.heap.size,1,none⟩=some (.slice A L c)∧X.cell? ⟨w.heap.size+1,0,none⟩=some (.bool q)∧X.cell? ⟨w.heap.size+1,1,none⟩=some (.slice B K d))∧Ext w X)
  (first
   | exact hS0
   | exact qG (by assumption) (by assumption)
   | exact qH (by assumption))
  (first
   | (go_at_call 128;((with_reducible refine (hM.out _ hu0 hv0).mono ?_);rintro e w2 ⟨u,rfl,hu2,hE2⟩;obtain ⟨A2,c2,rfl,hc2⟩:=Un.sh hu2))
   | (go_at_call 62;((with_reducible refine (Pg.out _ _ hu2).mono ?_);rintro e w3 ⟨u,rfl,hz3,aJ⟩;obtain ⟨b3,A3,L3,c3,rfl⟩:=hz3.sh;have jl:=(hI0.ext hE2).ext aJ;obtain ⟨i0,i1,i2,i3,i4⟩:=id jl)))
 clear jl hM Pg
 go_wp2
 (try simp only [Exit.inBlock,Exit.then])
 refine bodyPost_ret (v:=.agg #[.bool b3,.slice A3 L3 c3]) (show (results _ _).run _ _=_ from ?_) rfl ⟨_,rfl,hz3.bW ((hI0.ext hE2).ext aJ) (aM _ _ _) _ _,((hE0.below hE2).below aJ).bW (by omega) _ _⟩
 simp only [results]
 go_simp
end Go.Proofs.YtdpmbgomcjnohaaGreatDoor
namespace Go.Proofs.YtdpmbgomcjnohaaGreatDoor
open Pl
open Go.RowKit
set_option linter.all false
set_option maxRecDepth 100000
set_option maxHeartbeats 8000000
theorem Bj (w:World) (va:Value) (b:Bool) (xs:List Nat) (ha:Ri w va b xs) (k:Int) (hk0:0≤k) (hk1:k≤1000000) (n:Nat) (hn:dM xs k.toNat=n) (hl:(limbs n).length≤1000000) (y:Int) (hy:sg b n=y) :
  Calls Tryz.prog 16 #[va,.int .i64 k] w fun e w'=>∃ u,e = .returned u∧Zn w' u y∧Ext w w':=by
 obtain ⟨A,c,rfl,hu⟩:=ha
 obtain ⟨L,hL⟩:∃ L,xs.length=L:=⟨_,rfl⟩
 have Ph:=Lib.hid (fun W h=>uY W (.slice A xs.length c) xs k h hk0 (by omega) n hn)
 rw [hL] at Ph hu ⊢
 have hE0:=(((Ext.refl w).alloc (.cells #[.bool b,.slice A L c] 24)).alloc (.cells #[.bool false,.slice none 0 0] 24)).drew
 have hI0:=(Ib.new2 w (.cells #[.bool b,.slice A L c] 24) false (.slice none 0 0) 24).ext (Ext.refl _).drew
 have gY:=(Ib.new w b (.slice A L c) 24).ext (((Ext.refl _).alloc (.cells #[.bool false,.slice none 0 0] 24)).drew)
 have hS0:(w.heap.size+1<((w.alloc (.cells #[.bool b,.slice A L c] 24)).alloc (.cells #[.bool false,.slice none 0 0] 24)).drew.heap.size∧((w.alloc (.cells #[.bool b,.slice A L c] 24)).alloc (.cells #[.bool false,.slice none 0 0] 24)).drew.cell? ⟨w.heap.size,0,none⟩=some (.bool b)∧((w.alloc (.cells #[.bool b,.slice A L c] 24)).alloc (.cells #[.bool false,.slice none 0 0] 24)).drew.cell? ⟨w.heap.size,1,none⟩=some (.slice A L c))∧Ext w ((w.alloc (.cells #[.bool b,.slice A L c] 24)).alloc (.cells #[.bool false,.slice none 0 0] 24)).drew:=⟨⟨by simp,gY.2.1,gY.2.2.1⟩,hE0⟩
 have hu0:=hu.below hE0
 have hM1:=Lib.hid (fun W v (h:Un W v n)=>eY W b v (limbs n) h (by omega) n (aH _) y hy)
 clear gY hy hn hL hl hu hk0 hk1
 go_enter Tryz.func16,Tryz.ntmps16
 go_wp2
 go_region_held3 (fun X=>(w.heap.size+1<X.heap.size∧X.cell? ⟨w.heap.size,0,none⟩=some (.bool b)∧X.cell? ⟨w.heap.size,1,none⟩=some (.slice A L c))∧Ext w X)
  (first
   | assumption
   | with_reducible exact hS0
   | with_reducible exact Bc (by assumption)
   | exact AZ (by assumption) (by assumption))
  (first
   | (go_at_call 63;((with_reducible refine (Ph.out _ hu0).mono ?_);rintro e w2 ⟨u,rfl,hu2,hE2⟩;obtain ⟨A2,c2,rfl,-⟩:=Un.sh hu2))
   | (go_at_call 62;((with_reducible refine (hM1.out _ _ hu2).mono ?_);rintro e w3 ⟨u,rfl,hz3,aJ⟩;obtain ⟨b3,A3,L3,c3,rfl⟩:=hz3.sh;have jl:=(hI0.ext hE2).ext aJ;obtain ⟨i0,i1,i2,i3,i4⟩:=id jl)))
 clear jl Ph hM1
 go_wp2
 (try simp only [Exit.inBlock,Exit.then])
 refine bodyPost_ret (v:=.agg #[.bool b3,.slice A3 L3 c3]) (show (results _ _).run _ _=_ from ?_) rfl ⟨_,rfl,hz3.bW ((hI0.ext hE2).ext aJ) (aM _ _ _) _ _,((hE0.below hE2).below aJ).bW (by omega) _ _⟩
 simp only [results]
 go_simp
end Go.Proofs.YtdpmbgomcjnohaaGreatDoor
namespace Go.Proofs.YtdpmbgomcjnohaaGreatDoor
open Pl
open Go.RowKit
set_option linter.all false
set_option maxRecDepth 100000
set_option maxHeartbeats 8000000
theorem qJ (a:Int) (i:Nat):shl a (-(i:Int))=a/2^i:=by
 unfold shl
 rcases Nat.eq_zero_or_pos i with rfl | h
 · simp
 · rw [if_neg (by omega),Int.neg_neg];rfl
theorem l6 (w:World) (va:Value) (b:Bool) (xs:List Nat) (ha:Ri w va b xs) (k:Nat) (z:Int) (hz:z=(k:Int)) (hk1:k≤1000000) (y:Int) (hy:sg b (dM xs k)=y) :
  Calls Tryz.prog 16 #[va,.int .i64 z] w fun e w'=>∃ u,e = .returned u∧Zn w' u y∧Ext w w':=by
 subst hz
 obtain ⟨A,c,e,hu⟩:=id ha
 exact Bj w va b xs ha (k:Int) (by omega) (by omega) (dM xs k) rfl (Nat.le_trans (kX xs k hu.lim) hk1) y hy
end Go.Proofs.YtdpmbgomcjnohaaGreatDoor
namespace Go.Proofs.YtdpmbgomcjnohaaGreatDoor
open Pl
open Go.RowKit 
set_option linter.all false
set_option maxRecDepth 100000
set_option maxHeartbeats 8000000
theorem Mj {m e:Int} (h:Dy.Can m e):Dy.Can (-m) e:=by
 unfold Dy.Can at *;omega
theorem PN {m e:Int} {x:Rat} (h:Dy.dv m e=x):Dy.dv (-m) e = -x:=by rw [Dy.PO,h]
theorem vF (w:World) (va:Value) (x:Rat) (L:Nat) (lo hi:Int) (ha:Dn w va x L lo hi) :
  Calls Tryz.prog 24 #[va] w fun e w'=>∃ u,e = .returned u∧Dn w' u (-x) L lo hi∧Pl.Ex w w':=by
 obtain ⟨ma,ea,Aa,ca,rfl,ua,da⟩:=ha
 have yx:=da.lo
 have yz:=da.hi
 refine aN (n:=9) (vs:=[.agg #[.bool (decide (ma<0)),.slice Aa (limbs (Int.natAbs ma)).length ca,.int .i64 ea]]) Tryz.func24 rfl (by kernel_rfl) (by simp) ?_
 repeat refine af ?_
 refine ah (by kernel_rfl) ?_
 refine bF (cs:=[.bool (decide (ma<0)),.slice Aa (limbs (Int.natAbs ma)).length ca,.int .i64 ea]) rfl rfl rfl rfl rfl rfl (fun Y hY=>trivial) ?_
 intro N1 w1 hE1 bT ak
 have dP:=Pl.Cb.lt ak
 have jC:=zYz hE1
 refine bK (z:=.agg #[.bool false,.slice none 0 0,.int .i64 0]) (by kernel_rfl) rfl rfl rfl rfl (fun Y hY=>trivial) ?_
 intro N2 w2 hE2 dU aA
 have iq:=Pl.Cb.lt aA
 have jM:=zYz hE2
 replace aA:Pl.Cb w2 N2 26 [.bool false,.slice none 0 0,.int .i64 0]:=aA
 refine aj ?_
 repeat refine af ?_
 refine fU (S:=fun X=>Pl.Ex w1 X) [(true,0,0),(true,1,1),(true,3,3),(true,4,11),(false,2,27),(true,5,31),(false,6,63)] fo aR (by kernel_rfl) (yW hE2 (Pl.Ex.drew _)) ?_
 have aJ:=Pl.Ex.drew w2
 generalize w2.drew=w3 at *
 have jX:=zYz aJ
 intro dL
 refine aL (.pointer (some ⟨N1,0,none⟩)) dL rfl rfl rfl rfl (fun X=>by kernel_rfl) ?_
 refine bn (part:=[.bool (decide (ma<0)),.slice Aa (limbs (Int.natAbs ma)).length ca]) (fun X hX=>zZz ak hX) rfl Tryz.underlying24 rfl (by kernel_rfl) dL rfl rfl rfl rfl rfl ?_
 refine aL (.pointer (some ⟨N1,2,none⟩)) dL rfl rfl rfl rfl (fun X=>by kernel_rfl) ?_
 refine iB (v:=.int .i64 ea) Tryz.underlying3 rfl (fun X hX=>Pl.Cb.at (j:=2) (zZz ak hX) rfl) dL rfl rfl rfl rfl rfl ?_
 refine ay rfl rfl rfl rfl rfl (fun u X=>enters Tryz.func71 (by kernel_rfl) rfl u X) ?_
 refine Calls.mono (ace _ _ ma (Zn.of (Un.below ua (yW hE1 (yW hE2 aJ)))) _ rfl) ?_
 rintro e w4 ⟨v3,rfl,hv3,aP⟩
 obtain ⟨A4,c5,rfl,u6⟩:=hv3
 have kY:=zYz aP
 have fJ:=yW dL aP
 refine ⟨_,rfl,fJ,?_⟩
 refine aL (.agg #[.bool (decide ((-ma)<0)),.slice A4 (limbs (Int.natAbs (-ma))).length c5,.int .i64 ea]) fJ rfl rfl rfl rfl (fun X=>by kernel_rfl) ?_
 refine bz (new:=[.bool (decide ((-ma)<0)),.slice A4 (limbs (Int.natAbs (-ma))).length c5,.int .i64 ea]) (zZz aA (yW aJ aP)) (by kernel_rfl) rfl (by simp [Value.oneCell']) rfl rfl rfl rfl rfl rfl (fun Y hY=>Pl.Ex.xs fJ hY (by omega)) ?_
 intro w5 iW bf
 have aW:=Pl.Ex.xs (yW hE2 (yW aJ aP)) iW (by omega)
 have mI:=Xs.size iW
 have hS5:=Pl.Ex.xs fJ iW (by omega)
 refine aj ?_
 have k7:=Un.xs u6 iW (zZz aA (yW aJ aP)) (by simp)
 repeat refine af ?_
 exact aV rfl rfl bf Tryz.underlying26 rfl (by kernel_rfl) (⟨_,rfl,Dn.mk k7 (Mj da.can) (PN da.val) (Sz.neg da.sz) da.lo da.hi,(yW hE1 aW)⟩)
end Go.Proofs.YtdpmbgomcjnohaaGreatDoor
namespace Go.Proofs.YtdpmbgomcjnohaaGreatDoor
open Pl
open Go.RowKit 
set_option linter.all false
set_option maxRecDepth 100000
set_option maxHeartbeats 8000000
theorem Cc (w:World) (hg:Gt w) (va vb:Value) (x y:Rat) (L J:Nat) (lo hi:Int) (ha:Dn w va x L lo hi) (hb:Dn w vb y L lo hi) (hJ:hi-lo≤32*J) (hL:L+J+1≤20000) (hlo : -900000≤lo) (hhi:hi≤900000) (lo2 hi2:Int) (h1:lo2≤lo-1) (h2:hi+32*(L+J+1:Nat)≤hi2) (h3:lo2≤0) (h4:0≤hi2) :
  Calls Tryz.prog 28 #[va,vb] w fun e w'=>∃ u,e = .returned u∧Dn w' u (x-y) (L+J+1) lo2 hi2∧Pl.Ex w w':=by
 obtain ⟨ma,ea,Aa,ca,rfl,ua,da⟩:=ha
 have yx:=da.lo
 have yz:=da.hi
 obtain ⟨mb,eb,Ab,cb,rfl,ub,db⟩:=hb
 have Ny:=db.lo
 have Nz:=db.hi
 refine aN (n:=9) (vs:=[.agg #[.bool (decide (ma<0)),.slice Aa (limbs (Int.natAbs ma)).length ca,.int .i64 ea],.agg #[.bool (decide (mb<0)),.slice Ab (limbs (Int.natAbs mb)).length cb,.int .i64 eb]]) Tryz.func28 rfl (by kernel_rfl) (by simp) ?_
 repeat refine af ?_
 refine ah (by kernel_rfl) ?_
 refine bF (cs:=[.bool (decide (ma<0)),.slice Aa (limbs (Int.natAbs ma)).length ca,.int .i64 ea]) rfl rfl rfl rfl rfl rfl (fun Y hY=>trivial) ?_
 intro N1 w1 hE1 bT ak
 have dP:=Pl.Cb.lt ak
 have jC:=zYz hE1
 refine bF (cs:=[.bool (decide (mb<0)),.slice Ab (limbs (Int.natAbs mb)).length cb,.int .i64 eb]) rfl rfl rfl rfl rfl rfl (fun Y hY=>trivial) ?_
 intro N2 w2 hE2 dU aA
 have iq:=Pl.Cb.lt aA
 have jM:=zYz hE2
 refine bK (z:=.agg #[.bool false,.slice none 0 0,.int .i64 0]) (by kernel_rfl) rfl rfl rfl rfl (fun Y hY=>trivial) ?_
 intro N3 w3 aJ pY aY
 have yg:=Pl.Cb.lt aY
 have jX:=zYz aJ
 replace aY:Pl.Cb w3 N3 26 [.bool false,.slice none 0 0,.int .i64 0]:=aY
 refine aj ?_
 repeat refine af ?_
 refine fU (S:=fun X=>Pl.Ex w2 X) [(true,0,0),(true,1,1),(false,2,3),(false,3,7),(false,4,15)] fo aR (by kernel_rfl) (yW aJ (Pl.Ex.drew _)) ?_
 have aP:=Pl.Ex.drew w3
 generalize w3.drew=w4 at *
 have kY:=zYz aP
 intro fJ
 refine bn (part:=[.bool (decide (ma<0)),.slice Aa (limbs (Int.natAbs ma)).length ca,.int .i64 ea]) (fun X hX=>zZz (zZz ak hE2) hX) rfl Tryz.underlying26 rfl (by kernel_rfl) fJ rfl rfl rfl rfl rfl ?_
 refine bn (part:=[.bool (decide (mb<0)),.slice Ab (limbs (Int.natAbs mb)).length cb,.int .i64 eb]) (fun X hX=>zZz aA hX) rfl Tryz.underlying26 rfl (by kernel_rfl) fJ rfl rfl rfl rfl rfl ?_
 refine ay rfl rfl rfl rfl rfl (fun u X=>enters Tryz.func24 (by kernel_rfl) rfl u X) ?_
 refine Calls.mono (vF _ _ y _ _ _ (Dn.mk (Un.below ub (yW hE1 (yW hE2 (yW aJ aP)))) db.can db.val db.sz db.lo db.hi)) ?_
 rintro e w5 ⟨vn,rfl,hvn,aW⟩
 obtain ⟨mn,en,An,cn,rfl,un,dn⟩:=hvn
 have mI:=zYz aW
 have hS5:=yW fJ aW
 refine ⟨_,rfl,hS5,?_⟩
 refine ay rfl rfl rfl rfl rfl (fun u X=>enters Tryz.func26 (by kernel_rfl) rfl u X) ?_
 refine Calls.mono (qO _ (hg.ext (yW hE1 (yW hE2 (yW aJ (yW aP aW))))) _ _ x (-y) L J lo hi (Dn.mk (Un.below ua (yW hE1 (yW hE2 (yW aJ (yW aP aW))))) da.can da.val da.sz da.lo da.hi) (Dn.mk un dn.can dn.val dn.sz dn.lo dn.hi) hJ hL hlo hhi lo2 hi2 h1 h2 h3 h4) ?_
 rintro e w6 ⟨vs,rfl,hvs,bO⟩
 rw [← Rat.sub_eq_add_neg] at hvs
 obtain ⟨m1,e1,A1,c1,rfl,u1,d1⟩:=hvs
 have rC:=zYz bO
 have kD:=yW hS5 bO
 refine ⟨_,rfl,kD,?_⟩
 refine bz (new:=[.bool (decide (m1<0)),.slice A1 (limbs (Int.natAbs m1)).length c1,.int .i64 e1]) (zZz aY (yW aP (yW aW bO))) (by kernel_rfl) rfl (by simp [Value.oneCell']) rfl rfl rfl rfl rfl rfl (fun Y hY=>Pl.Ex.xs kD hY (by omega)) ?_
 intro w7 iM fE
 have cB:=Pl.Ex.xs (yW aJ (yW aP (yW aW bO))) iM (by omega)
 have wm:=Xs.size iM
 have lJ:=Pl.Ex.xs kD iM (by omega)
 refine aj ?_
 have k4:=Un.xs u1 iM (zZz aY (yW aP (yW aW bO))) (by simp)
 repeat refine af ?_
 exact aV rfl rfl fE Tryz.underlying26 rfl (by kernel_rfl) (⟨_,rfl,(Dn.mk k4 d1.can d1.val d1.sz d1.lo d1.hi),(yW hE1 (yW hE2 cB))⟩)
theorem Ce (w:World) (hg:Gt w) (va vb:Value) (x y:Rat) (L M:Nat) (lo hi:Int) (ha:Dn w va x L lo hi) (hb:Dn w vb y M lo hi) (hL:L≤398) (hM:M≤398) (hlo : -400000≤lo) (hhi:hi≤400000) (lo2 hi2:Int) (h1:lo2≤lo+lo) (h2:hi+hi+32*(L+M:Nat)≤hi2) (h3:lo2≤0) (h4:0≤hi2) :
  Calls Tryz.prog 30 #[va,vb] w fun e w'=>∃ u,e = .returned u∧Dn w' u (x*y) (L+M) lo2 hi2∧Pl.Ex w w':=by
 obtain ⟨ma,ea,Aa,ca,rfl,ua,da⟩:=ha
 have yx:=da.lo
 have yz:=da.hi
 obtain ⟨mb,eb,Ab,cb,rfl,ub,db⟩:=hb
 have Ny:=db.lo
 have Nz:=db.hi
 have hsm:Sz (ma*mb) (L+M):=Sz.mul da.sz db.sz (Nat.le_refl _)
 refine aN (n:=16) (vs:=[.agg #[.bool (decide (ma<0)),.slice Aa (limbs (Int.natAbs ma)).length ca,.int .i64 ea],.agg #[.bool (decide (mb<0)),.slice Ab (limbs (Int.natAbs mb)).length cb,.int .i64 eb]]) Tryz.func30 rfl (by kernel_rfl) (by simp) ?_
 repeat refine af ?_
 refine ah (by kernel_rfl) ?_
 refine bF (cs:=[.bool (decide (ma<0)),.slice Aa (limbs (Int.natAbs ma)).length ca,.int .i64 ea]) rfl rfl rfl rfl rfl rfl (fun Y hY=>trivial) ?_
 intro N1 w1 hE1 bT ak
 have dP:=Pl.Cb.lt ak
 have jC:=zYz hE1
 refine bF (cs:=[.bool (decide (mb<0)),.slice Ab (limbs (Int.natAbs mb)).length cb,.int .i64 eb]) rfl rfl rfl rfl rfl rfl (fun Y hY=>trivial) ?_
 intro N2 w2 hE2 dU aA
 have iq:=Pl.Cb.lt aA
 have jM:=zYz hE2
 refine bK (z:=.agg #[.bool false,.slice none 0 0,.int .i64 0]) (by kernel_rfl) rfl rfl rfl rfl (fun Y hY=>trivial) ?_
 intro N3 w3 aJ pY aY
 have yg:=Pl.Cb.lt aY
 have jX:=zYz aJ
 replace aY:Pl.Cb w3 N3 26 [.bool false,.slice none 0 0,.int .i64 0]:=aY
 refine aj ?_
 repeat refine af ?_
 refine fU (S:=fun X=>Pl.Ex w2 X) [(true,0,0),(true,1,1),(true,2,3),(true,3,7),(true,5,15),(true,6,47),(true,7,111),(true,8,239),(true,9,495),(false,4,1007),(false,10,1023),(false,11,2047)] fo aR (by kernel_rfl) (yW aJ (Pl.Ex.drew _)) ?_
 have aP:=Pl.Ex.drew w3
 generalize w3.drew=w4 at *
 have kY:=zYz aP
 intro fJ
 refine aL (.pointer (some ⟨N1,0,none⟩)) fJ rfl rfl rfl rfl (fun X=>by kernel_rfl) ?_
 refine bn (part:=[.bool (decide (ma<0)),.slice Aa (limbs (Int.natAbs ma)).length ca]) (fun X hX=>zZz (zZz ak hE2) hX) rfl Tryz.underlying24 rfl (by kernel_rfl) fJ rfl rfl rfl rfl rfl ?_
 refine aL (.pointer (some ⟨N2,0,none⟩)) fJ rfl rfl rfl rfl (fun X=>by kernel_rfl) ?_
 refine bn (part:=[.bool (decide (mb<0)),.slice Ab (limbs (Int.natAbs mb)).length cb]) (fun X hX=>zZz aA hX) rfl Tryz.underlying24 rfl (by kernel_rfl) fJ rfl rfl rfl rfl rfl ?_
 refine aL (.pointer (some ⟨N1,2,none⟩)) fJ rfl rfl rfl rfl (fun X=>by kernel_rfl) ?_
 refine iB (v:=.int .i64 ea) Tryz.underlying3 rfl (fun X hX=>Pl.Cb.at (j:=2) (zZz (zZz ak hE2) hX) rfl) fJ rfl rfl rfl rfl rfl ?_
 refine aL (.pointer (some ⟨N2,2,none⟩)) fJ rfl rfl rfl rfl (fun X=>by kernel_rfl) ?_
 refine iB (v:=.int .i64 eb) Tryz.underlying3 rfl (fun X hX=>Pl.Cb.at (j:=2) (zZz aA hX) rfl) fJ rfl rfl rfl rfl rfl ?_
 refine bP (v:=.int .i64 (ea+eb)) (fun X=>yt (by omega) X) fJ rfl rfl rfl rfl rfl rfl ?_
 refine ay rfl rfl rfl rfl rfl (fun u X=>enters Tryz.func76 (by kernel_rfl) rfl u X) ?_
 refine Calls.mono (acf _ _ _ ma mb (Zn.of (Un.below ua (yW hE1 (yW hE2 (yW aJ aP))))) (Zn.of (Un.below ub (yW hE1 (yW hE2 (yW aJ aP))))) (da.sz.le (by omega)) (db.sz.le (by omega)) _ rfl) ?_
 rintro e w5 ⟨vs,rfl,hvs,aW⟩
 obtain ⟨As,cs,rfl,us⟩:=hvs
 have mI:=zYz aW
 have hS5:=yW fJ aW
 refine ⟨_,rfl,hS5,?_⟩
 refine ay rfl rfl rfl rfl rfl (fun u X=>enters Tryz.func18 (by kernel_rfl) rfl u X) ?_
 refine Calls.mono (dD _ (hg.ext (yW hE1 (yW hE2 (yW aJ (yW aP aW))))) _ (ma*mb) (ea+eb) (Zn.of us) (L+M) hsm (by omega) (by omega) lo2 hi2 (by omega) (by omega) (by omega) (by omega)) ?_
 rintro e w6 ⟨vd,rfl,hvd,bO⟩
 rw [Dy.PR,da.val,db.val] at hvd
 obtain ⟨m1,e1,A1,c1,rfl,u1,d1⟩:=hvd
 have rC:=zYz bO
 have kD:=yW hS5 bO
 refine ⟨_,rfl,kD,?_⟩
 refine bz (new:=[.bool (decide (m1<0)),.slice A1 (limbs (Int.natAbs m1)).length c1,.int .i64 e1]) (zZz aY (yW aP (yW aW bO))) (by kernel_rfl) rfl (by simp [Value.oneCell']) rfl rfl rfl rfl rfl rfl (fun Y hY=>Pl.Ex.xs kD hY (by omega)) ?_
 intro w7 iM fE
 have cB:=Pl.Ex.xs (yW aJ (yW aP (yW aW bO))) iM (by omega)
 have wm:=Xs.size iM
 have lJ:=Pl.Ex.xs kD iM (by omega)
 refine aj ?_
 have k4:=Un.xs u1 iM (zZz aY (yW aP (yW aW bO))) (by simp)
 repeat refine af ?_
 exact aV rfl rfl fE Tryz.underlying26 rfl (by kernel_rfl) (⟨_,rfl,(Dn.mk k4 d1.can d1.val d1.sz d1.lo d1.hi),(yW hE1 (yW hE2 cB))⟩)
end Go.Proofs.YtdpmbgomcjnohaaGreatDoor
namespace Go.Proofs.YtdpmbgomcjnohaaGreatDoor.Rf
open Pl
open Go Go.RowKit Go.Proofs.YtdpmbgomcjnohaaGreatDoor.Pl
set_option linter.all false
set_option maxRecDepth 100000
set_option maxHeartbeats 8000000
def VC (n:Nat):RS:=⟨fun w f=>Un w (f 0) n,fun h hs hk=>ni h hs hk⟩
section
variable {P:Program} {f:FuncId} {args:Array Value} {w:World} {α:Env} {γ:j6}
theorem GY {m:Nat} (g:Nat) (h:Calls P f args w (fun e w'=>∃ u,e = .returned u∧Un w' u m∧Ex w w')) :
  Calls P f args w (fun e w'=>∃ F,(∀ k,bE (F k)=true)∧e = .returned (den α (upd γ g F) (.c g 0))∧(VC m).R w' F∧Ex w w'):=Calls.mono h fun e w' ⟨u,he,hU,hE⟩=>by
 obtain ⟨A,c,hu⟩:=Un.WI hU
 subst hu he
 refine ⟨tZ [.slice A (limbs m).length c],dI rfl,?_,hU,hE⟩
 simp only [den,bU,upd_same];rfl
end
end Go.Proofs.YtdpmbgomcjnohaaGreatDoor.Rf
namespace Go.Proofs.YtdpmbgomcjnohaaGreatDoor.Rf
open Pl
open Go Go.RowKit Go.Proofs.YtdpmbgomcjnohaaGreatDoor.Pl
set_option linter.all false
set_option maxRecDepth 100000
set_option maxHeartbeats 8000000
theorem yc {w:World} {f:Nat→Value} {z:Int} (h:(rA z).R w f):Un w (f 1) z.natAbs:=by
 obtain ⟨A,c,e,u⟩:=h
 have e2:=Array.mk.inj (Value.agg.inj e)
 simp only [List.cons.injEq,and_true] at e2
 rw [e2.2];exact u
end Go.Proofs.YtdpmbgomcjnohaaGreatDoor.Rf
namespace Go.Proofs.YtdpmbgomcjnohaaGreatDoor.Rf
open Pl
open Go Go.RowKit Go.Proofs.YtdpmbgomcjnohaaGreatDoor.Pl
set_option linter.all false
set_option maxRecDepth 100000
set_option maxHeartbeats 8000000
section
variable {P:Program} {Q:Exit→Act→World→Prop} {n:Nat} {ds:List Deferred} {w0:World} {cs:List Code} {l:Fr} {B:Bx} {Γ:Gm} {L:List Oper}
theorem GZ {ord:Option (List Nat)} {l0:Fr} {B0:Bx} {Γ0:Gm} {tr:Tr} {d:Nat} {o:Oper} {rd:List Nat} {lr:Fr} {Γr:Gm} (SY gs:List Nat) (g:Nat) (S:RS) (res:SV)
  (ho:nth L (oi ord tr.length)=some o) (hd:o.dst=some d) (hrd:EQ L o.guard++SY=rd) (hlr:kr (wh l0 tr) rd=lr) (hg:mW L lr o.guard=some true) (hΓ:qK (Gq Γ0 tr) gs=Γr)
  (Bl:∀ α γ w,Holds w0 [] Γr α γ w→∃ F w',(∀ k,bE (F k)=true)∧(∀ ρ,Cons ρ (eG α γ lr)→(execOp ρ o).run P w = .ok (.value (den α (upd γ g F) res)) w')∧S.R w' F∧Ex w w')
  (h:DA P Q n ds w0 cs L ord l0 B0 Γ0 (⟨some d,res,rd,[],gs,none,none,some (g,S.S)⟩::tr)):DA P Q n ds w0 cs L ord l0 B0 Γ0 tr:=fun ha=>h (by
 subst hΓ hlr
 exact ⟨.eff o d g S res rd gs ho hd hg Bl,ha⟩)
theorem Pn {ord:Option (List Nat)} {l0:Fr} {B0:Bx} {Γ0:Gm} {tr:Tr} {d:Nat} {o:Oper} {rd:List Nat} {lr:Fr} {e:TypeId} {m:Nat} (vs:List Value) (g:Nat) (S:RS)
  (ho:nth L (oi ord tr.length)=some o) (hd:o.dst=some d) (hrd:EQ L o.guard=rd) (hlr:kr (wh l0 tr) rd=lr) (hg:mW L lr o.guard=some true) (hk:∀ α γ,known (eG α γ lr) o.op=true)
  (he:∀ α γ X,(execOp (L9 (eG α γ lr)) o).run P X = .ok (.value (.slice (some ⟨X.heap.size,0,none⟩) m m)) (X.alloc (.cells vs.toArray e)))
  (hR:∀ N w,Cb w N e vs→S.R w (tZ [.slice (some ⟨N,0,none⟩) m m]))
  (h:DA P Q n ds w0 cs L ord l0 B0 Γ0 (⟨some d,.c g 0,rd,[],[],none,none,some (g,S.S)⟩::tr)):DA P Q n ds w0 cs L ord l0 B0 Γ0 tr :=
 GZ [] [] g S (.c g 0) ho hd (by rw [List.append_nil];exact hrd) hlr hg rfl (fun α γ w _=>⟨tZ [.slice (some ⟨w.heap.size,0,none⟩) m m],w.alloc (.cells vs.toArray e),dI rfl,fun ρ hρ=>by
  rw [ku hρ (hk α γ),he α γ w,show den α (upd γ g (tZ [.slice (some ⟨w.heap.size,0,none⟩) m m])) (.c g 0)=upd γ g (tZ [.slice (some ⟨w.heap.size,0,none⟩) m m]) g 0 from rfl,upd_same]
  rfl,hR _ _ (Cb.new w e vs),Ex.alloc w _⟩) h
end
theorem D6 {P:Program} {f:FuncId} {args:Array Value} {w:World} {α:Env} {γ:j6} {z z':Int} (g:Nat) (h:Calls P f args w fun e w'=>(∃ u v,e = .returned (.tuple #[u,v,.int .i64 0])∧Zn w' u z∧Zn w' v z')∧Ex w w') :
  Calls P f args w (fun e w'=>∃ F,(∀ k,bE (F k)=true)∧e = .returned (den α (upd γ g F) (.t [.a [.c g 0,.c g 1],.a [.c g 2,.c g 3],.v (.int .i64 0)]))∧(rA z).R w' F∧Ex w w'):=Calls.mono h fun e w' ⟨⟨u,v,he,⟨A,c,hu,hU⟩,⟨A2,c2,hv,hV⟩⟩,hE⟩=>by
 subst hu hv he
 refine ⟨tZ [.bool (decide (z<0)),.slice A (limbs z.natAbs).length c,.bool (decide (z'<0)),.slice A2 (limbs z'.natAbs).length c2],dI rfl,?_,⟨A,c,rfl,hU⟩,hE⟩
 simp only [den,bU,upd_same];rfl
theorem Po {w:World} {f:Nat→Value} {z:Int} (h:(rA z).R w f):f 0 = .bool (decide (z<0)):=by
 obtain ⟨A,c,e1,u⟩:=h
 have e2:=Array.mk.inj (Value.agg.inj e1)
 simp only [List.cons.injEq,and_true] at e2
 exact e2.1
end Go.Proofs.YtdpmbgomcjnohaaGreatDoor.Rf
namespace Go.Proofs.YtdpmbgomcjnohaaGreatDoor
open Pl
open Go.RowKit 
set_option linter.all false
set_option maxRecDepth 100000
set_option maxHeartbeats 8000000
theorem gJ (w:World) (vn vd:Value) (n d:Int) (q:Rat) (hn:Zn w vn n) (hd:Zn w vd d) (L M:Nat) (ln:Sz n L) (ld:Sz d M) (hL:L≤100) (hM:M≤100) (hd0:d≠0) (hq:Rat.divInt n d=q) :
  Calls Tryz.prog 83 #[vn,vd] w fun e w'=>∃ u,e = .returned u∧Qn w' u q L M∧Pl.Ex w w':=by
 obtain ⟨An,cn,rfl,un⟩:=hn
 obtain ⟨Ad,cd,rfl,ud⟩:=hd
 refine aN (n:=14) (vs:=[.agg #[.bool (decide (n<0)),.slice An (limbs (Int.natAbs n)).length cn],.agg #[.bool (decide (d<0)),.slice Ad (limbs (Int.natAbs d)).length cd]]) Tryz.func83 rfl (by kernel_rfl) (by simp) ?_
 repeat refine af ?_
 refine ah (by kernel_rfl) ?_
 refine bF (cs:=[.bool (decide (n<0)),.slice An (limbs (Int.natAbs n)).length cn]) rfl rfl rfl rfl rfl rfl (fun Y hY=>trivial) ?_
 intro N1 w1 hE1 bT ak
 have dP:=Pl.Cb.lt ak
 have jC:=zYz hE1
 refine bF (cs:=[.bool (decide (d<0)),.slice Ad (limbs (Int.natAbs d)).length cd]) rfl rfl rfl rfl rfl rfl (fun Y hY=>trivial) ?_
 intro N2 w2 hE2 dU aA
 have iq:=Pl.Cb.lt aA
 have jM:=zYz hE2
 refine bK (z:=.agg #[.bool false,.slice none 0 0,.slice none 0 0]) (by kernel_rfl) rfl rfl rfl rfl (fun Y hY=>trivial) ?_
 intro N3 w3 aJ pY aY
 have yg:=Pl.Cb.lt aY
 have jX:=zYz aJ
 replace aY:Pl.Cb w3 N3 41 [.bool false,.slice none 0 0,.slice none 0 0]:=aY
 refine aj ?_
 repeat refine af ?_
 refine ah (by kernel_rfl) ?_
 refine bg (part:=[.bool (decide (n<0)),.slice An (limbs (Int.natAbs n)).length cn]) (zZz ak (yW hE2 aJ)) rfl Tryz.underlying24 rfl (by kernel_rfl) trivial rfl rfl rfl rfl rfl ?_
 refine bg (part:=[.bool (decide (d<0)),.slice Ad (limbs (Int.natAbs d)).length cd]) (zZz aA aJ) rfl Tryz.underlying24 rfl (by kernel_rfl) trivial rfl rfl rfl rfl rfl ?_
 refine ay rfl rfl rfl rfl rfl (fun u X=>enters Tryz.func97 (by kernel_rfl) rfl u X) ?_
 refine Calls.mono (jf _ _ _ n d (Zn.of (Un.below un (yW hE1 (yW hE2 aJ)))) (Zn.of (Un.below ud (yW hE1 (yW hE2 aJ)))) L M ln ld hL hM hd0) ?_
 rintro e w4 ⟨vq,rfl,rz,aP⟩
 rw [hq] at rz
 obtain ⟨A1,c1,A2,c2,rfl,u1,u2,z1,z2⟩:=rz
 have kY:=zYz aP
 refine ⟨_,rfl,trivial,?_⟩
 refine aG trivial rfl ?_
 refine bK (z:=.agg #[.bool false,.slice none 0 0,.slice none 0 0]) (by kernel_rfl) rfl rfl rfl rfl (fun Y hY=>trivial) ?_
 intro N4 w5 aW wQ bV
 have ES:=Pl.Cb.lt bV
 have mI:=zYz aW
 replace bV:Pl.Cb w5 N4 41 [.bool false,.slice none 0 0,.slice none 0 0]:=bV
 refine bz (new:=[.bool (decide ((Rat.num q)<0)),.slice A1 (limbs (Int.natAbs (Rat.num q))).length c1,.slice A2 (limbs (Rat.den q)).length c2]) bV (by kernel_rfl) rfl (by simp [Value.oneCell']) rfl rfl rfl rfl rfl rfl (fun Y hY=>trivial) ?_
 intro w6 jY fO
 have bO:=Pl.Ex.xs aW jY (by omega)
 have rC:=Xs.size jY
 refine aG trivial rfl ?_
 refine aj ?_
 repeat refine af ?_
 refine ah (by kernel_rfl) ?_
 refine bg (part:=[.bool (decide ((Rat.num q)<0)),.slice A1 (limbs (Int.natAbs (Rat.num q))).length c1,.slice A2 (limbs (Rat.den q)).length c2]) fO rfl Tryz.underlying41 rfl (by kernel_rfl) trivial rfl rfl rfl rfl rfl ?_
 refine bz (new:=[.bool (decide ((Rat.num q)<0)),.slice A1 (limbs (Int.natAbs (Rat.num q))).length c1,.slice A2 (limbs (Rat.den q)).length c2]) (zZz aY (yW aP bO)) (by kernel_rfl) rfl (by simp [Value.oneCell']) rfl rfl rfl rfl rfl rfl (fun Y hY=>trivial) ?_
 intro w7 iM fE
 have cB:=Pl.Ex.xs (yW aJ (yW aP bO)) iM (by omega)
 have wm:=Xs.size iM
 have yh:=Pl.Cb.xs fO iM (by simp;omega)
 refine aj ?_
 have k5:=Un.xs (Un.below u1 bO) iM (zZz aY (yW aP bO)) (by simp)
 have k6:=Un.xs (Un.below u2 bO) iM (zZz aY (yW aP bO)) (by simp)
 repeat refine af ?_
 exact aV rfl rfl fE Tryz.underlying41 rfl (by kernel_rfl) (⟨_,rfl,(Qn.mk k5 k6 z1 z2),(yW hE1 (yW hE2 cB))⟩)
end Go.Proofs.YtdpmbgomcjnohaaGreatDoor
namespace Go.Proofs.YtdpmbgomcjnohaaGreatDoor
open Pl
open Go.RowKit Rf
set_option linter.all false
set_option maxRecDepth 100000
set_option maxHeartbeats 8000000
theorem Bo {p q:Rat} {k:Int} (h:bZ (p.num*((q.den:Nat):Int)) (q.num*((p.den:Nat):Int))=k):ET p q k:=by
 have h1:=yj h
 have a:=Rq.rV (a:=p) (b:=q)
 have b:=Rq.rV (a:=q) (b:=p)
 have c:=Rq.cmp_eq (a:=p) (b:=q)
 refine ⟨by omega,by omega,by rw [a];omega,by rw [c];omega,by rw [b];omega⟩
theorem gp (w:World) (vn:Value) (n:Int) (L:Nat) (hn:Zn w vn n) (ln:Sz n L) :
  Calls Tryz.prog 82 #[vn] w fun e w'=>∃ u,e = .returned u∧Qn w' u ((n:Int):Rat) L 1∧Pl.Ex w w':=by
 obtain ⟨An,cn,rfl,un⟩:=hn
 refine aN (n:=6) (vs:=[.agg #[.bool (decide (n<0)),.slice An (limbs (Int.natAbs n)).length cn]]) Tryz.func82 rfl (by kernel_rfl) (by simp) ?_
 repeat refine af ?_
 refine ah (by kernel_rfl) ?_
 refine bF (cs:=[.bool (decide (n<0)),.slice An (limbs (Int.natAbs n)).length cn]) rfl rfl rfl rfl rfl rfl (fun Y hY=>trivial) ?_
 intro N1 w1 hE1 bT ak
 have dP:=Pl.Cb.lt ak
 have jC:=zYz hE1
 refine bK (z:=.agg #[.bool false,.slice none 0 0,.slice none 0 0]) (by kernel_rfl) rfl rfl rfl rfl (fun Y hY=>trivial) ?_
 intro N2 w2 hE2 dU aA
 have iq:=Pl.Cb.lt aA
 have jM:=zYz hE2
 replace aA:Pl.Cb w2 N2 41 [.bool false,.slice none 0 0,.slice none 0 0]:=aA
 refine aj ?_
 repeat refine af ?_
 refine ah (by kernel_rfl) ?_
 refine bg (part:=[.bool (decide (n<0)),.slice An (limbs (Int.natAbs n)).length cn]) (zZz ak hE2) rfl Tryz.underlying24 rfl (by kernel_rfl) trivial rfl rfl rfl rfl rfl ?_
 refine ze (e := 67) (n:=1) [.int .u32 1] rfl rfl rfl rfl (by kernel_rfl) (fun Y hY=>trivial) ?_
 intro N3 w3 aJ pY aY
 have yg:=Pl.Cb.lt aY
 have jX:=zYz aJ
 refine aL (.agg #[.bool (decide (n<0)),.slice An (limbs (Int.natAbs n)).length cn,.slice (some ⟨N3,0,none⟩) 1 1]) trivial rfl rfl rfl rfl (fun X=>by kernel_rfl) ?_
 refine bz (new:=[.bool (decide (n<0)),.slice An (limbs (Int.natAbs n)).length cn,.slice (some ⟨N3,0,none⟩) 1 1]) (zZz aA aJ) (by kernel_rfl) rfl (by simp [Value.oneCell']) rfl rfl rfl rfl rfl rfl (fun Y hY=>trivial) ?_
 intro w4 wo bf
 have aP:=Pl.Ex.xs (yW hE2 aJ) wo (by omega)
 have kY:=Xs.size wo
 have fE:=Pl.Cb.xs aY wo (by simp;omega)
 refine aj ?_
 have hl4:=Un.one (x:=1) fE rfl (by omega)
 repeat refine af ?_
 exact aV rfl rfl bf Tryz.underlying41 rfl (by kernel_rfl) (⟨_,rfl,Qn.of (q:=((n:Int):Rat)) rfl rfl (Un.below un (yW hE1 aP)) hl4 ln (show Sn 1 1 from Sn.of (by decide)),(yW hE1 aP)⟩)
theorem fF (w:World) (va vb:Value) (p q:Rat) (L M L2 M2:Nat) (ha:Qn w va p L M) (hb:Qn w vb q L2 M2) (hK:L+M2≤398) (hN:L2+M≤398) :
  Calls Tryz.prog 49 #[va,vb] w fun e w'=>∃ k:Int,e = .returned (.int .i64 k)∧ET p q k∧Pl.Ex w w':=by
 obtain ⟨Aa,ca,Ba,ba,rfl,ua,ta,za,ya⟩:=ha
 obtain ⟨Ab,cb,Bb,bb,rfl,ub,tb,zb,yb⟩:=hb
 refine Rf.bQ (n:=18) [.a [.c 0 0,.c 0 1,.c 0 2],.a [.c 1 0,.c 1 1,.c 1 2]] [[.bool (decide (Rat.num p<0)),.slice Aa (limbs (Rat.num p).natAbs).length ca,.slice Ba (limbs (Rat.den p)).length ba],[.bool (decide (Rat.num q<0)),.slice Ab (limbs (Rat.num q).natAbs).length cb,.slice Bb (limbs (Rat.den q)).length bb]] [(0,(l7 p L M).S),(1,(l7 q L2 M2).S)] Tryz.func49 rfl (by kernel_rfl) rfl rfl ⟨RS.in ⟨Aa,ca,Ba,ba,rfl,ua,ta,za,ya⟩,RS.in ⟨Ab,cb,Bb,bb,rfl,ub,tb,zb,yb⟩,trivial⟩ ?_
 repeat refine Rf.aa ?_
 refine Rf.az (by kernel_rfl) ?_
 refine Rf.aD aK 0 rfl ?_
 refine Rf.aI ?_
 repeat refine Rf.aa ?_
 refine Rf.bM none fo ?_
 refine Rf.aO aK 14 2 rfl ?_
 refine Rf.aB 2 _ _ rfl rfl rfl rfl rfl rfl rfl rfl rfl (fun u X=>enters Tryz.func84 (by kernel_rfl) rfl u X) (fun α γ w h=>dx 2 (bC _ _ (Rat.den q) (bH (h.r 1 rfl)).2.2.1)) ?_
 refine Rf.aB 3 _ _ rfl rfl rfl rfl rfl rfl rfl rfl rfl (fun u X=>enters Tryz.func91 (by kernel_rfl) rfl u X) (fun α γ w h=>dx 3 (jA _ _ _ (Rat.num p) (((Rat.den q):Nat):Int) (bH (h.r 0 rfl)).1 (h.r 2 rfl) (Sz.le za (by omega)) (Sz.le (Sn.sz yb) (by omega)) _ rfl)) ?_
 refine Rf.aO aK 14 2 rfl ?_
 refine Rf.aB 4 _ _ rfl rfl rfl rfl rfl rfl rfl rfl rfl (fun u X=>enters Tryz.func84 (by kernel_rfl) rfl u X) (fun α γ w h=>dx 4 (bC _ _ (Rat.den p) (bH (h.r 0 rfl)).2.2.1)) ?_
 refine Rf.aB 5 _ _ rfl rfl rfl rfl rfl rfl rfl rfl rfl (fun u X=>enters Tryz.func91 (by kernel_rfl) rfl u X) (fun α γ w h=>dx 5 (jA _ _ _ (Rat.num q) (((Rat.den p):Nat):Int) (bH (h.r 1 rfl)).1 (h.r 4 rfl) (Sz.le zb (by omega)) (Sz.le (Sn.sz ya) (by omega)) _ rfl)) ?_
 refine Rf.aB 6 _ _ rfl rfl rfl rfl rfl rfl rfl rfl rfl (fun u X=>enters Tryz.func89 (by kernel_rfl) rfl u X) (fun α γ w h=>nZ 6 (Calls.mono (Bi _ _ _ ((Rat.num p)*(((Rat.den q):Nat):Int)) ((Rat.num q)*(((Rat.den p):Nat):Int)) (h.r 3 rfl) (h.r 5 rfl) (Sz.le (Sz.mul za (Sn.sz yb) (by omega):Sz ((Rat.num p)*(((Rat.den q):Nat):Int)) (L+M2)) (by omega)) (Sz.le (Sz.mul zb (Sn.sz ya) (by omega):Sz ((Rat.num q)*(((Rat.den p):Nat):Int)) (L2+M)) (by omega)) _ rfl) fun e w2 ⟨h1,h2⟩=>⟨_,h1,rfl,h2⟩)) ?_
 refine Rf.aO aK 14 2 rfl ?_
 refine Rf.dQ (by kernel_rfl) ?_
 refine Rf.bN [4] [] [6] rfl rfl rfl ?_
 repeat refine Rf.aa ?_
 exact Rf.bI aK (fun _ _ h=>h) rfl rfl (fun α γ w h=>by obtain ⟨k,e9,hk⟩:=h.r 6 rfl;exact ⟨k,congrArg Ending.returned e9,Bo hk,h.ex⟩)
theorem kv (w:World) (va:Value) (p:Rat) (L M:Nat) (ha:Qn w va p L M) (hL:L≤1000000) :
  Calls Tryz.prog 54 #[va] w fun e w'=>∃ u,e = .returned u∧Qn w' u (-p) L M∧Pl.Ex w w':=by
 obtain ⟨Aa,ca,Ba,ba,rfl,ua,ta,za,ya⟩:=ha
 refine aN (n:=9) (vs:=[.agg #[.bool (decide ((Rat.num p)<0)),.slice Aa (limbs (Int.natAbs (Rat.num p))).length ca,.slice Ba (limbs (Rat.den p)).length ba]]) Tryz.func54 rfl (by kernel_rfl) (by simp) ?_
 repeat refine af ?_
 refine ah (by kernel_rfl) ?_
 refine bF (cs:=[.bool (decide ((Rat.num p)<0)),.slice Aa (limbs (Int.natAbs (Rat.num p))).length ca,.slice Ba (limbs (Rat.den p)).length ba]) rfl rfl rfl rfl rfl rfl (fun Y hY=>trivial) ?_
 intro N1 w1 hE1 bT ak
 have dP:=Pl.Cb.lt ak
 have jC:=zYz hE1
 refine bK (z:=.agg #[.bool false,.slice none 0 0,.slice none 0 0]) (by kernel_rfl) rfl rfl rfl rfl (fun Y hY=>trivial) ?_
 intro N2 w2 hE2 dU aA
 have iq:=Pl.Cb.lt aA
 have jM:=zYz hE2
 replace aA:Pl.Cb w2 N2 41 [.bool false,.slice none 0 0,.slice none 0 0]:=aA
 refine aj ?_
 repeat refine af ?_
 refine fU (S:=fun X=>Pl.Ex w1 X) [(true,0,0),(true,1,1),(true,3,3),(true,4,11),(false,2,27),(true,5,31),(false,6,63)] fo aR (by kernel_rfl) (yW hE2 (Pl.Ex.drew _)) ?_
 have aJ:=Pl.Ex.drew w2
 generalize w2.drew=w3 at *
 have jX:=zYz aJ
 intro dL
 refine aL (.pointer (some ⟨N1,0,none⟩)) dL rfl rfl rfl rfl (fun X=>by kernel_rfl) ?_
 refine bn (part:=[.bool (decide ((Rat.num p)<0)),.slice Aa (limbs (Int.natAbs (Rat.num p))).length ca]) (fun X hX=>zZz ak hX) rfl Tryz.underlying24 rfl (by kernel_rfl) dL rfl rfl rfl rfl rfl ?_
 refine aL (.pointer (some ⟨N1,2,none⟩)) dL rfl rfl rfl rfl (fun X=>by kernel_rfl) ?_
 refine iB (v:=.slice Ba (limbs (Rat.den p)).length ba) Tryz.underlying22 rfl (fun X hX=>Pl.Cb.at (j:=2) (zZz ak hX) rfl) dL rfl rfl rfl rfl rfl ?_
 refine ay rfl rfl rfl rfl rfl (fun u X=>enters Tryz.func72 (by kernel_rfl) rfl u X) ?_
 refine Calls.mono (D7 _ _ (Rat.num p) (Zn.of (Un.below ua (yW hE1 (yW hE2 aJ)))) (Sz.le za (by omega)) _ rfl) ?_
 rintro e w4 ⟨v3,rfl,hv3,aP⟩
 obtain ⟨A4,c5,rfl,u6⟩:=hv3
 have kY:=zYz aP
 have fJ:=yW dL aP
 refine ⟨_,rfl,fJ,?_⟩
 refine aL (.agg #[.bool (decide ((-(Rat.num p))<0)),.slice A4 (limbs (Int.natAbs (-(Rat.num p)))).length c5,.slice Ba (limbs (Rat.den p)).length ba]) fJ rfl rfl rfl rfl (fun X=>by kernel_rfl) ?_
 refine bz (new:=[.bool (decide ((-(Rat.num p))<0)),.slice A4 (limbs (Int.natAbs (-(Rat.num p)))).length c5,.slice Ba (limbs (Rat.den p)).length ba]) (zZz aA (yW aJ aP)) (by kernel_rfl) rfl (by simp [Value.oneCell']) rfl rfl rfl rfl rfl rfl (fun Y hY=>Pl.Ex.xs fJ hY (by omega)) ?_
 intro w5 iW bf
 have aW:=Pl.Ex.xs (yW hE2 (yW aJ aP)) iW (by omega)
 have mI:=Xs.size iW
 have hS5:=Pl.Ex.xs fJ iW (by omega)
 refine aj ?_
 have k7:=Un.xs u6 iW (zZz aA (yW aJ aP)) (by simp)
 repeat refine af ?_
 exact aV rfl rfl bf Tryz.underlying41 rfl (by kernel_rfl) (⟨_,rfl,Qn.of (q := -p) rfl rfl k7 (Un.below ta (yW hE1 aW)) (Sz.neg za) ya,(yW hE1 aW)⟩)
theorem ig (w:World) (va vb:Value) (p q:Rat) (L M L2 M2:Nat) (ha:Qn w va p L M) (hb:Qn w vb q L2 M2) (K N:Nat) (h1:L+M2+1≤K) (h2:L2+M+1≤K) (h3:M+M2≤N) (hK:K≤100) (hN:N≤100) :
  Calls Tryz.prog 46 #[va,vb] w fun e w'=>∃ u,e = .returned u∧Qn w' u (p+q) K N∧Pl.Ex w w':=by
 obtain ⟨Aa,ca,Ba,ba,rfl,ua,ta,za,ya⟩:=ha
 obtain ⟨Ab,cb,Bb,bb,rfl,ub,tb,zb,yb⟩:=hb
 refine Rf.bQ (n:=26) [.a [.c 0 0,.c 0 1,.c 0 2],.a [.c 1 0,.c 1 1,.c 1 2]] [[.bool (decide (Rat.num p<0)),.slice Aa (limbs (Rat.num p).natAbs).length ca,.slice Ba (limbs (Rat.den p)).length ba],[.bool (decide (Rat.num q<0)),.slice Ab (limbs (Rat.num q).natAbs).length cb,.slice Bb (limbs (Rat.den q)).length bb]] [(0,(l7 p L M).S),(1,(l7 q L2 M2).S)] Tryz.func46 rfl (by kernel_rfl) rfl rfl ⟨RS.in ⟨Aa,ca,Ba,ba,rfl,ua,ta,za,ya⟩,RS.in ⟨Ab,cb,Bb,bb,rfl,ub,tb,zb,yb⟩,trivial⟩ ?_
 repeat refine Rf.aa ?_
 refine Rf.az (by kernel_rfl) ?_
 refine Rf.aD aK 0 rfl ?_
 refine Rf.aI ?_
 repeat refine Rf.aa ?_
 refine Rf.bM none fo ?_
 refine Rf.aO aK 22 3 rfl ?_
 refine Rf.aB 2 _ _ rfl rfl rfl rfl rfl rfl rfl rfl rfl (fun u X=>enters Tryz.func84 (by kernel_rfl) rfl u X) (fun α γ w h=>dx 2 (bC _ _ (Rat.den q) (bH (h.r 1 rfl)).2.2.1)) ?_
 refine Rf.aB 3 _ _ rfl rfl rfl rfl rfl rfl rfl rfl rfl (fun u X=>enters Tryz.func91 (by kernel_rfl) rfl u X) (fun α γ w h=>dx 3 (jA _ _ _ (Rat.num p) (((Rat.den q):Nat):Int) (bH (h.r 0 rfl)).1 (h.r 2 rfl) (Sz.le za (by omega)) (Sz.le (Sn.sz yb) (by omega)) _ rfl)) ?_
 refine Rf.aO aK 22 3 rfl ?_
 refine Rf.aB 4 _ _ rfl rfl rfl rfl rfl rfl rfl rfl rfl (fun u X=>enters Tryz.func84 (by kernel_rfl) rfl u X) (fun α γ w h=>dx 4 (bC _ _ (Rat.den p) (bH (h.r 0 rfl)).2.2.1)) ?_
 refine Rf.aB 5 _ _ rfl rfl rfl rfl rfl rfl rfl rfl rfl (fun u X=>enters Tryz.func91 (by kernel_rfl) rfl u X) (fun α γ w h=>dx 5 (jA _ _ _ (Rat.num q) (((Rat.den p):Nat):Int) (bH (h.r 1 rfl)).1 (h.r 4 rfl) (Sz.le zb (by omega)) (Sz.le (Sn.sz ya) (by omega)) _ rfl)) ?_
 refine Rf.aB 6 _ _ rfl rfl rfl rfl rfl rfl rfl rfl rfl (fun u X=>enters Tryz.func55 (by kernel_rfl) rfl u X) (fun α γ w h=>dx 6 (GX _ _ _ ((Rat.num p)*(((Rat.den q):Nat):Int)) ((Rat.num q)*(((Rat.den p):Nat):Int)) (h.r 3 rfl) (h.r 5 rfl) (Sz.le (Sz.mul za (Sn.sz yb) (by omega):Sz ((Rat.num p)*(((Rat.den q):Nat):Int)) (L+M2)) (by omega)) (Sz.le (Sz.mul zb (Sn.sz ya) (by omega):Sz ((Rat.num q)*(((Rat.den p):Nat):Int)) (L2+M)) (by omega)) _ rfl)) ?_
 refine Rf.aO aK 22 3 rfl ?_
 refine Rf.aB 7 _ _ rfl rfl rfl rfl rfl rfl rfl rfl rfl (fun u X=>enters Tryz.func84 (by kernel_rfl) rfl u X) (fun α γ w h=>dx 7 (bC _ _ (Rat.den p) (bH (h.r 0 rfl)).2.2.1)) ?_
 refine Rf.aO aK 22 3 rfl ?_
 refine Rf.aB 8 _ _ rfl rfl rfl rfl rfl rfl rfl rfl rfl (fun u X=>enters Tryz.func84 (by kernel_rfl) rfl u X) (fun α γ w h=>dx 8 (bC _ _ (Rat.den q) (bH (h.r 1 rfl)).2.2.1)) ?_
 refine Rf.aB 9 _ _ rfl rfl rfl rfl rfl rfl rfl rfl rfl (fun u X=>enters Tryz.func91 (by kernel_rfl) rfl u X) (fun α γ w h=>dx 9 (jA _ _ _ (((Rat.den p):Nat):Int) (((Rat.den q):Nat):Int) (h.r 7 rfl) (h.r 8 rfl) (Sz.le (Sn.sz ya) (by omega)) (Sz.le (Sn.sz yb) (by omega)) _ rfl)) ?_
 refine Rf.aB 10 _ _ rfl rfl rfl rfl rfl rfl rfl rfl rfl (fun u X=>enters Tryz.func83 (by kernel_rfl) rfl u X) (fun α γ w h=>eZ 10 (gJ _ _ _ (((Rat.num p)*(((Rat.den q):Nat):Int))+((Rat.num q)*(((Rat.den p):Nat):Int))) ((((Rat.den p):Nat):Int)*(((Rat.den q):Nat):Int)) (p+q) (h.r 6 rfl) (h.r 9 rfl) (max (L+M2) (L2+M)+1) (M+M2) (Sz.add (Sz.mul za (Sn.sz yb) (by omega):Sz ((Rat.num p)*(((Rat.den q):Nat):Int)) (L+M2)) (Sz.mul zb (Sn.sz ya) (by omega):Sz ((Rat.num q)*(((Rat.den p):Nat):Int)) (L2+M)) (by omega) (by omega):Sz (((Rat.num p)*(((Rat.den q):Nat):Int))+((Rat.num q)*(((Rat.den p):Nat):Int))) (max (L+M2) (L2+M)+1)) (Sz.mul (Sn.sz ya) (Sn.sz yb) (by omega):Sz ((((Rat.den p):Nat):Int)*(((Rat.den q):Nat):Int)) (M+M2)) (by omega) (by omega) (Int.mul_ne_zero (show ((p.den:Nat):Int)≠0 by have:=p.den_pos;omega) (show ((q.den:Nat):Int)≠0 by have:=q.den_pos;omega)) (by rw [← Int.natCast_mul];exact Rq.Bf p q))) ?_
 refine Rf.aO aK 22 3 rfl ?_
 refine Rf.dQ (by kernel_rfl) ?_
 refine Rf.bN [4] [2] [10] rfl rfl rfl ?_
 repeat refine Rf.aa ?_
 exact Rf.bI aK (fun _ _ h=>h) rfl rfl (fun α γ w h=>⟨_,rfl,(Qn.le (h.r 10 rfl) (by omega) (by omega)),h.ex⟩)
theorem jg (w:World) (va vb:Value) (p q:Rat) (L M L2 M2:Nat) (ha:Qn w va p L M) (hb:Qn w vb q L2 M2) (K N:Nat) (h1:L+L2≤K) (h3:M+M2≤N) (hK:K≤100) (hN:N≤100) :
  Calls Tryz.prog 48 #[va,vb] w fun e w'=>∃ u,e = .returned u∧Qn w' u (p*q) K N∧Pl.Ex w w':=by
 obtain ⟨Aa,ca,Ba,ba,rfl,ua,ta,za,ya⟩:=ha
 obtain ⟨Ab,cb,Bb,bb,rfl,ub,tb,zb,yb⟩:=hb
 refine Rf.bQ (n:=18) [.a [.c 0 0,.c 0 1,.c 0 2],.a [.c 1 0,.c 1 1,.c 1 2]] [[.bool (decide (Rat.num p<0)),.slice Aa (limbs (Rat.num p).natAbs).length ca,.slice Ba (limbs (Rat.den p)).length ba],[.bool (decide (Rat.num q<0)),.slice Ab (limbs (Rat.num q).natAbs).length cb,.slice Bb (limbs (Rat.den q)).length bb]] [(0,(l7 p L M).S),(1,(l7 q L2 M2).S)] Tryz.func48 rfl (by kernel_rfl) rfl rfl ⟨RS.in ⟨Aa,ca,Ba,ba,rfl,ua,ta,za,ya⟩,RS.in ⟨Ab,cb,Bb,bb,rfl,ub,tb,zb,yb⟩,trivial⟩ ?_
 repeat refine Rf.aa ?_
 refine Rf.az (by kernel_rfl) ?_
 refine Rf.aD aK 0 rfl ?_
 refine Rf.aI ?_
 repeat refine Rf.aa ?_
 refine Rf.bM none fo ?_
 refine Rf.aO aK 14 3 rfl ?_
 refine Rf.aB 2 _ _ rfl rfl rfl rfl rfl rfl rfl rfl rfl (fun u X=>enters Tryz.func91 (by kernel_rfl) rfl u X) (fun α γ w h=>dx 2 (jA _ _ _ (Rat.num p) (Rat.num q) (bH (h.r 0 rfl)).1 (bH (h.r 1 rfl)).1 (Sz.le za (by omega)) (Sz.le zb (by omega)) _ rfl)) ?_
 refine Rf.aO aK 14 3 rfl ?_
 refine Rf.aB 3 _ _ rfl rfl rfl rfl rfl rfl rfl rfl rfl (fun u X=>enters Tryz.func84 (by kernel_rfl) rfl u X) (fun α γ w h=>dx 3 (bC _ _ (Rat.den p) (bH (h.r 0 rfl)).2.2.1)) ?_
 refine Rf.aO aK 14 3 rfl ?_
 refine Rf.aB 4 _ _ rfl rfl rfl rfl rfl rfl rfl rfl rfl (fun u X=>enters Tryz.func84 (by kernel_rfl) rfl u X) (fun α γ w h=>dx 4 (bC _ _ (Rat.den q) (bH (h.r 1 rfl)).2.2.1)) ?_
 refine Rf.aB 5 _ _ rfl rfl rfl rfl rfl rfl rfl rfl rfl (fun u X=>enters Tryz.func91 (by kernel_rfl) rfl u X) (fun α γ w h=>dx 5 (jA _ _ _ (((Rat.den p):Nat):Int) (((Rat.den q):Nat):Int) (h.r 3 rfl) (h.r 4 rfl) (Sz.le (Sn.sz ya) (by omega)) (Sz.le (Sn.sz yb) (by omega)) _ rfl)) ?_
 refine Rf.aB 6 _ _ rfl rfl rfl rfl rfl rfl rfl rfl rfl (fun u X=>enters Tryz.func83 (by kernel_rfl) rfl u X) (fun α γ w h=>eZ 6 (gJ _ _ _ ((Rat.num p)*(Rat.num q)) ((((Rat.den p):Nat):Int)*(((Rat.den q):Nat):Int)) (p*q) (h.r 2 rfl) (h.r 5 rfl) (L+L2) (M+M2) (Sz.mul za zb (by omega):Sz ((Rat.num p)*(Rat.num q)) (L+L2)) (Sz.mul (Sn.sz ya) (Sn.sz yb) (by omega):Sz ((((Rat.den p):Nat):Int)*(((Rat.den q):Nat):Int)) (M+M2)) (by omega) (by omega) (Int.mul_ne_zero (show ((p.den:Nat):Int)≠0 by have:=p.den_pos;omega) (show ((q.den:Nat):Int)≠0 by have:=q.den_pos;omega)) (by rw [← Int.natCast_mul];exact Rq.Bg p q))) ?_
 refine Rf.aO aK 14 3 rfl ?_
 refine Rf.dQ (by kernel_rfl) ?_
 refine Rf.bN [4] [2] [6] rfl rfl rfl ?_
 repeat refine Rf.aa ?_
 exact Rf.bI aK (fun _ _ h=>h) rfl rfl (fun α γ w h=>⟨_,rfl,(Qn.le (h.r 6 rfl) (by omega) (by omega)),h.ex⟩)
theorem jD (w:World) (va vb:Value) (p q:Rat) (L M L2 M2:Nat) (ha:Qn w va p L M) (hb:Qn w vb q L2 M2) (K N:Nat) (h1:L+M2+1≤K) (h2:L2+M+1≤K) (h3:M+M2≤N) (hK:K≤100) (hN:N≤100) :
  Calls Tryz.prog 47 #[va,vb] w fun e w'=>∃ u,e = .returned u∧Qn w' u (p-q) K N∧Pl.Ex w w':=by
 obtain ⟨Aa,ca,Ba,ba,rfl,ua,ta,za,ya⟩:=ha
 obtain ⟨Ab,cb,Bb,bb,rfl,ub,tb,zb,yb⟩:=hb
 refine Rf.bQ (n:=9) [.a [.c 0 0,.c 0 1,.c 0 2],.a [.c 1 0,.c 1 1,.c 1 2]] [[.bool (decide (Rat.num p<0)),.slice Aa (limbs (Rat.num p).natAbs).length ca,.slice Ba (limbs (Rat.den p)).length ba],[.bool (decide (Rat.num q<0)),.slice Ab (limbs (Rat.num q).natAbs).length cb,.slice Bb (limbs (Rat.den q)).length bb]] [(0,(l7 p L M).S),(1,(l7 q L2 M2).S)] Tryz.func47 rfl (by kernel_rfl) rfl rfl ⟨RS.in ⟨Aa,ca,Ba,ba,rfl,ua,ta,za,ya⟩,RS.in ⟨Ab,cb,Bb,bb,rfl,ub,tb,zb,yb⟩,trivial⟩ ?_
 repeat refine Rf.aa ?_
 refine Rf.az (by kernel_rfl) ?_
 refine Rf.aD aK 0 rfl ?_
 refine Rf.aI ?_
 repeat refine Rf.aa ?_
 refine Rf.bM none fo ?_
 refine Rf.aO aK 5 3 rfl ?_
 refine Rf.aB 2 _ _ rfl rfl rfl rfl rfl rfl rfl rfl rfl (fun u X=>enters Tryz.func54 (by kernel_rfl) rfl u X) (fun α γ w h=>eZ 2 (kv _ _ q L2 M2 (h.r 1 rfl) (by omega))) ?_
 refine Rf.aB 3 _ _ rfl rfl rfl rfl rfl rfl rfl rfl rfl (fun u X=>enters Tryz.func46 (by kernel_rfl) rfl u X) (fun α γ w h=>eZ 3 (ig _ _ _ p (-q) L M L2 M2 (h.r 0 rfl) (h.r 2 rfl) (max (L+M2) (L2+M)+1) (M+M2) (by omega) (by omega) (by omega) (by omega) (by omega))) ?_
 refine Rf.aO aK 5 3 rfl ?_
 refine Rf.dQ (by kernel_rfl) ?_
 refine Rf.bN [4] [2] [3] rfl rfl rfl ?_
 repeat refine Rf.aa ?_
 exact Rf.bI aK (fun _ _ h=>h) rfl rfl (fun α γ w h=>⟨_,rfl,by rw [Rat.sub_eq_add_neg];exact (Qn.le (h.r 3 rfl) (by omega) (by omega)),h.ex⟩)
end Go.Proofs.YtdpmbgomcjnohaaGreatDoor
namespace Go.Proofs.YtdpmbgomcjnohaaGreatDoor
open Pl
open Go.RowKit
set_option linter.all false
set_option maxRecDepth 100000
set_option maxHeartbeats 8000000
theorem rY (a:Int) (k:Nat):sg (decide (a<0)) (a.natAbs*2^k)=a*2^k:=by
 have e:((a.natAbs*2^k:Nat):Int)=(a.natAbs:Int)*2^k:=by push_cast;rfl
 by_cases h:a<0
 · rw [decide_eq_true h,uf,e,← Int.neg_mul];congr 1;omega
 · rw [decide_eq_false h,og,e];congr 1;omega
theorem Bp (k:Nat):sg false (1*2^k)=(2:Int)^k:=by rw [og,Nat.one_mul];push_cast;rfl
theorem p8 {a:Int} {K k:Nat} (h:Sz a K) (hk:k<32*40):(limbs (a.natAbs*2^k)).length≤K+40:=by
 have:=(h.mul (Sz.two (n:=k) (M:=40) hk) (Nat.le_refl _))
 have e:(a*2^k).natAbs=a.natAbs*2^k:=by rw [Int.natAbs_mul,Int.natAbs_pow];rfl
 rw [← e];exact this
end Go.Proofs.YtdpmbgomcjnohaaGreatDoor
namespace Go.Proofs.YtdpmbgomcjnohaaGreatDoor
open Pl
open Go.RowKit Rf
set_option linter.all false
set_option maxRecDepth 100000
set_option maxHeartbeats 8000000
theorem rZ (w:World) (va:Value) (a s:Int) (ha:Zn w va a) (hl:Sz a 100) (h0:0≤s) (h1 : -900≤s) (h2:s≤900) :
  Calls Tryz.prog 51 #[va,.int .i64 s] w fun e w'=>∃ u,e = .returned u∧Zn w' u (shl a s)∧Pl.Ex w w':=by
 obtain ⟨k,rfl⟩:∃ k:Nat,s=(k:Int):=⟨s.natAbs,by omega⟩
 obtain ⟨Aa,ca,rfl,ua⟩:=ha
 refine Rf.bQ (n:=29) [.a [.c 0 0,.c 0 1],.v (.int .i64 ((k:Nat):Int))] [[.bool (decide (a<0)),.slice Aa (limbs (Int.natAbs a)).length ca]] [(0,(rA a).S)] Tryz.func51 rfl (by kernel_rfl) rfl rfl ⟨RS.in ⟨Aa,ca,rfl,ua⟩,trivial⟩ ?_
 repeat refine Rf.aa ?_
 refine Rf.az (by kernel_rfl) ?_
 refine Rf.aD aK 0 rfl ?_
 refine Rf.aI ?_
 repeat refine Rf.aa ?_
 refine Rf.az (by kernel_rfl) ?_
 refine Rf.aD aK 2 rfl ?_
 refine Rf.iw (v:=.bool true) (fun X=>iP (by omega) X) rfl rfl rfl rfl rfl rfl ?_
 refine Rf.aI ?_
 repeat refine Rf.aa ?_
 refine Rf.eU rfl ?_
 repeat refine Rf.aa ?_
 refine Rf.bM none fo ?_
 refine Rf.aO aK 8 2 rfl ?_
 refine Rf.aB 1 _ _ rfl rfl rfl rfl rfl rfl rfl rfl rfl (fun u X=>enters Tryz.func92 (by kernel_rfl) rfl u X) (fun α γ w h=>GY 1 (rT _ _ a.natAbs k (yc (h.r 0 rfl)) (by omega) (Nat.le_trans hl (by decide)) _ rfl)) ?_
 refine Rf.aB 2 (rA (shl a ((k:Nat):Int))) (.a [.c 2 0,.c 2 1]) rfl rfl rfl rfl rfl rfl rfl rfl rfl (fun u X=>enters Tryz.func62 (by kernel_rfl) rfl u X) (fun α γ w h=>by have e0:γ 0 0 = .bool (decide (a<0)):=Po (h.r 0 rfl);show Calls _ _ #[γ 0 0,γ 1 0] _ _;rw [e0];exact dx 2 (eY _ (decide (a<0)) _ (limbs (a.natAbs*2^k)) (h.r 1 rfl) (Nat.le_trans (p8 hl (by omega)) (by decide)) _ (aH _) (shl a ((k:Nat):Int)) ((rY a k).trans (oL a k).symm))) ?_
 refine Rf.aO aK 8 2 rfl ?_
 refine Rf.dQ (by kernel_rfl) ?_
 refine Rf.bN [1,2,4] [0,1] [0,2] rfl rfl rfl ?_
 repeat refine Rf.aa ?_
 exact Rf.bI aK (fun _ _ h=>h) rfl rfl (fun α γ w h=>⟨_,rfl,h.r 2 rfl,h.ex⟩)
theorem sj (w:World) (va:Value) (a s:Int) (ha:Zn w va a) (hl:Sz a 100) (h0:¬ 0≤s) (h1 : -900≤s) (h2:s≤900) :
  Calls Tryz.prog 51 #[va,.int .i64 s] w fun e w'=>∃ u,e = .returned u∧Zn w' u (shl a s)∧Pl.Ex w w':=by
 obtain ⟨k,rfl⟩:∃ k:Nat,s = -(k:Int):=⟨s.natAbs,by omega⟩
 obtain ⟨Aa,ca,rfl,ua⟩:=ha
 refine Rf.bQ (n:=29) [.a [.c 0 0,.c 0 1],.v (.int .i64 (-((k:Nat):Int)))] [[.bool (decide (a<0)),.slice Aa (limbs (Int.natAbs a)).length ca]] [(0,(rA a).S)] Tryz.func51 rfl (by kernel_rfl) rfl rfl ⟨RS.in ⟨Aa,ca,rfl,ua⟩,trivial⟩ ?_
 repeat refine Rf.aa ?_
 refine Rf.az (by kernel_rfl) ?_
 refine Rf.aD aK 0 rfl ?_
 refine Rf.aI ?_
 repeat refine Rf.aa ?_
 refine Rf.az (by kernel_rfl) ?_
 refine Rf.aD aK 2 rfl ?_
 refine Rf.iw (v:=.bool false) (fun X=>jm (by omega) X) rfl rfl rfl rfl rfl rfl ?_
 refine Rf.aI ?_
 repeat refine Rf.aa ?_
 refine Rf.eP rfl ?_
 repeat refine Rf.aa ?_
 refine Rf.dZ ?_
 repeat refine Rf.aa ?_
 refine Rf.bM none fo ?_
 refine Rf.aO aK 16 2 rfl ?_
 refine Rf.Pn (e := 67) (m:=1) [.int .u32 1] 1 (VC 1) rfl rfl rfl rfl rfl (fun _ _=>rfl) (fun α γ X=>by kernel_rfl) (fun N w k=>Un.one (x:=1) k rfl (by omega)) ?_
 refine Rf.aO aK 16 2 rfl ?_
 refine Rf.oI (.int .i64 ((k:Nat):Int)) rfl rfl rfl rfl rfl rfl rfl (fun X=>(eH (by omega) X).trans (by rw [Int.neg_neg])) ?_
 refine Rf.aB 2 _ _ rfl rfl rfl rfl rfl rfl rfl rfl rfl (fun u X=>enters Tryz.func92 (by kernel_rfl) rfl u X) (fun α γ w h=>GY 2 (rT _ _ 1 k (h.r 1 rfl) (by omega) (Nat.le_trans (Sz.lit (z:=1) (K:=1) (by decide) (by decide)) (by decide)) _ rfl)) ?_
 refine Rf.aB 3 _ _ rfl rfl rfl rfl rfl rfl rfl rfl rfl (fun u X=>enters Tryz.func62 (by kernel_rfl) rfl u X) (fun α γ w h=>dx 3 (eY _ false _ (limbs (1*2^k)) (h.r 2 rfl) (by rw [Nat.one_mul];exact Nat.le_trans (zX (M:=40) (by omega)) (by decide)) _ (aH _) ((2:Int)^k) (Bp k))) ?_
 refine Rf.aB 4 (rA (shl a (-((k:Nat):Int)))) (.t [.a [.c 4 0,.c 4 1],.a [.c 4 2,.c 4 3],.v (.int .i64 0)]) rfl rfl rfl rfl rfl rfl rfl rfl rfl (fun u X=>enters Tryz.func93 (by kernel_rfl) rfl u X) (fun α γ w h=>D6 4 (wS _ _ _ a ((2:Int)^k) (h.r 0 rfl) (h.r 3 rfl) (Sz.le hl (by decide)) (Sz.le (Sz.two (M:=40) (by omega)) (by decide)) (Bq k) (shl a (-((k:Nat):Int))) _ (qJ a k).symm rfl)) ?_
 refine Rf.aO aK 16 2 rfl ?_
 refine Rf.dQ (by kernel_rfl) ?_
 refine Rf.bN [4,5] [1,2] [4] rfl rfl rfl ?_
 repeat refine Rf.aa ?_
 refine Rf.az (by kernel_rfl) ?_
 refine Rf.aD aK 4 rfl ?_
 refine Rf.aI ?_
 repeat refine Rf.aa ?_
 exact Rf.bI aK (fun _ _ h=>h) rfl rfl (fun α γ w h=>⟨_,rfl,h.r 4 rfl,h.ex⟩)
theorem oM (w:World) (va:Value) (a s:Int) (ha:Zn w va a) (hl:Sz a 100) (h1 : -900≤s) (h2:s≤900) :
  Calls Tryz.prog 51 #[va,.int .i64 s] w fun e w'=>∃ u,e = .returned u∧Zn w' u (shl a s)∧Pl.Ex w w':=by
 by_cases h0:0≤s
 · exact rZ w va a s ha hl h0 h1 h2
 · exact sj w va a s ha hl h0 h1 h2
end Go.Proofs.YtdpmbgomcjnohaaGreatDoor
namespace Go.Proofs.YtdpmbgomcjnohaaGreatDoor
open Pl
open Go.RowKit 
set_option linter.all false
set_option maxRecDepth 100000
set_option maxHeartbeats 8000000
theorem wT {n k o i:Nat} (h:n=2^k*(2*o+1)) (hi:i≤k):pG n (i:Int)=if i=k then 1 else 0:=by
 unfold pG
 rw [if_neg (by omega),Int.toNat_natCast,h]
 obtain ⟨d,rfl⟩:∃ d,k=i+d:=⟨k-i,by omega⟩
 rw [Nat.pow_add,Nat.mul_assoc,Nat.mul_div_cancel_left _ (Nat.two_pow_pos i)]
 cases d with
 | zero=>rw [if_pos (by omega),Nat.pow_zero];omega
 | succ d=>rw [if_neg (by omega),Nat.pow_succ,Nat.mul_assoc,Nat.mul_left_comm];omega
theorem JK {m:Int} {k o:Nat} (h:m.natAbs=2^k*(2*o+1)):sg (decide (m<0)) (m.natAbs/2^k)=shl m (-(k:Int)):=by
 rw [h,Nat.mul_div_cancel_left _ (Nat.two_pow_pos k),qJ]
 unfold sg
 rcases Int.natAbs_eq m with h1 | h1
 · rw [if_neg (by rw [decide_eq_true_iff];omega),h1,h,Int.natCast_mul,Int.natCast_pow]
   exact (Int.mul_ediv_cancel_left _ (Int.pow_ne_zero (by decide))).symm
 · rw [if_pos (by rw [decide_eq_true_iff];have:=Nat.two_pow_pos k;have:0<2^k*(2*o+1):=Nat.mul_pos this (by omega);omega),h1,h,Int.natCast_mul,Int.natCast_pow,← Int.mul_neg]
   exact (Int.mul_ediv_cancel_left _ (Int.pow_ne_zero (by decide))).symm
theorem jh (w:World) (vm:Value) (m ex:Int) (hm:Zn w vm m) (L:Nat) (lm:Sz m L) (hL:L≤30000) (he : -1000000000≤ex∧ex≤1000000000) (lo hi:Int) (h1:lo≤ex) (h2:ex+32*L≤hi) (h3:lo≤0) (h4:0≤hi) :
  Calls Tryz.prog 19 #[vm,.int .i64 ex] w fun e w'=>∃ u,e = .returned u∧Dn w' u (Dy.dv m ex) L lo hi∧Pl.Ex w w':=by
 obtain ⟨Am,cm,rfl,um⟩:=hm
 refine aN (n:=29) (vs:=[.agg #[.bool (decide (m<0)),.slice Am (limbs (Int.natAbs m)).length cm],.int .i64 ex]) Tryz.func19 rfl (by kernel_rfl) (by simp) ?_
 repeat refine af ?_
 refine ah (by kernel_rfl) ?_
 refine bF (cs:=[.bool (decide (m<0)),.slice Am (limbs (Int.natAbs m)).length cm]) rfl rfl rfl rfl rfl rfl (fun Y hY=>trivial) ?_
 intro N1 w1 hE1 bT ak
 have dP:=Pl.Cb.lt ak
 have jC:=zYz hE1
 refine bK (z:=.agg #[.bool false,.slice none 0 0,.int .i64 0]) (by kernel_rfl) rfl rfl rfl rfl (fun Y hY=>trivial) ?_
 intro N2 w2 hE2 dU aA
 have iq:=Pl.Cb.lt aA
 have jM:=zYz hE2
 replace aA:Pl.Cb w2 N2 26 [.bool false,.slice none 0 0,.int .i64 0]:=aA
 refine aj ?_
 repeat refine af ?_
 refine ah (by kernel_rfl) ?_
 refine aL (.pointer (some ⟨N1,1,none⟩)) trivial rfl rfl rfl rfl (fun X=>by kernel_rfl) ?_
 refine bD (v:=.slice Am (limbs (Int.natAbs m)).length cm) Tryz.underlying22 rfl (Pl.Cb.at (j:=1) (zZz ak hE2) rfl) trivial rfl rfl rfl rfl rfl ?_
 refine su Tryz.underlying22 trivial rfl rfl rfl rfl rfl ?_
 by_cases c3:((limbs (Int.natAbs m)).length)=0
 · refine bP (v:=.bool true) (fun X=>gW (e_t (by omega)) X) trivial rfl rfl rfl rfl rfl rfl ?_
   refine aj ?_
   repeat refine af ?_
   refine fP rfl ?_
   repeat refine af ?_
   refine ah (by kernel_rfl) ?_
   refine aL (.agg #[.bool false,.slice none 0 0,.int .i64 0]) trivial rfl rfl rfl rfl (fun X=>by kernel_rfl) ?_
   refine bz (new:=[.bool false,.slice none 0 0,.int .i64 0]) aA (by kernel_rfl) rfl (by simp [Value.oneCell']) rfl rfl rfl rfl rfl rfl (fun Y hY=>trivial) ?_
   intro w3 Gs bf
   have aJ:=Pl.Ex.xs hE2 Gs (by omega)
   have jX:=Xs.size Gs
   refine aj ?_
   repeat refine af ?_
   exact aV rfl rfl bf Tryz.underlying26 rfl (by kernel_rfl) (⟨_,rfl,by rw [show m=0 from Int.natAbs_eq_zero.1 (kC.1 c3),Dy.oN];exact Dn.zero _ L (by omega) (by omega),(yW hE1 aJ)⟩)
 · refine bP (v:=.bool false) (fun X=>gW (e_f (by omega)) X) trivial rfl rfl rfl rfl rfl rfl ?_
   refine aj ?_
   repeat refine af ?_
   refine dH rfl ?_
   repeat refine af ?_
   refine fG ?_
   repeat refine af ?_
   refine ah (by kernel_rfl) ?_
   have hm0:m.natAbs≠0:=fun h9=>c3 (kC.2 h9)
   obtain ⟨k,o,hko⟩:=yl m.natAbs hm0
   have WJ:k<32*L:=EU hko (by have:=uN lm;rw [Nat.pow_mul];exact this)
   refine aG trivial rfl ?_
   refine aj ?_
   repeat refine af ?_
   refine nu ?_
   repeat refine af ?_
   refine lI [(1,.int .i64 ex),(2,.pointer (some ⟨N1,0,none⟩)),(4,.pointer (some ⟨N2,0,none⟩)),(5,.int .i64 0)] (aC rfl (aC rfl (aC rfl (aC rfl dW)))) ?_
   repeat refine af ?_
   refine ym (fun kq l' w'=>∃ i,(k-i)=kq∧Pl.Ex w2 w'∧(i≤k)∧l'=[(1,.int .i64 ex),(2,.pointer (some ⟨N1,0,none⟩)),(4,.pointer (some ⟨N2,0,none⟩)),(5,.int .i64 ((i:Nat):Int))]) _ ⟨0,rfl,Pl.Ex.refl _,(Nat.zero_le _),rfl⟩ ?_
   rintro kq _ w3 ⟨i,hk3,aJ,hik,rfl⟩
   have jX:=zYz aJ
   repeat refine af ?_
   refine ah (by kernel_rfl) ?_
   refine aL (.pointer (some ⟨N1,1,none⟩)) trivial rfl rfl rfl rfl (fun X=>by kernel_rfl) ?_
   refine bD (v:=.slice Am (limbs (Int.natAbs m)).length cm) Tryz.underlying22 rfl (Pl.Cb.at (j:=1) (zZz ak (yW hE2 aJ)) rfl) trivial rfl rfl rfl rfl rfl ?_
   refine aG trivial rfl ?_
   refine ay rfl rfl rfl rfl rfl (fun u X=>enters Tryz.func56 (by kernel_rfl) rfl u X) ?_
   refine Calls.mono (EL _ _ (Int.natAbs m) (i:Int) (Un.below um (yW hE1 (yW hE2 aJ))) (by omega) (by omega) _ rfl) ?_
   rintro e w4 ⟨rfl,aP⟩
   have kY:=zYz aP
   refine ⟨_,rfl,trivial,?_⟩
   by_cases c4:(pG (Int.natAbs m) (i:Int))=0
   · refine bP (v:=.bool true) (fun X=>gW (e_t (by omega)) X) trivial rfl rfl rfl rfl rfl rfl ?_
     refine aj ?_
     repeat refine af ?_
     refine fP rfl ?_
     repeat refine af ?_
     refine fG ?_
     repeat refine af ?_
     refine nu ?_
     repeat refine af ?_
     refine ah (by kernel_rfl) ?_
     have hlt:i<k:=by have:=wT hko hik;have h9:=c4;rw [this] at h9;split at h9<;>omega
     refine aG trivial rfl ?_
     refine bP (v:=.int .i64 (((i+1):Nat):Int)) (fun X=>iG (a:=i) (b:=1) (by omega) X) trivial rfl rfl rfl rfl rfl rfl ?_
     refine aG trivial rfl ?_
     refine aj ?_
     refine oh ?_
     repeat refine af ?_
     refine zY (k':=(k-(i+1))) [(1,.int .i64 ex),(2,.pointer (some ⟨N1,0,none⟩)),(4,.pointer (some ⟨N2,0,none⟩)),(5,.int .i64 (((i+1):Nat):Int))] (aC rfl (aC rfl (aC rfl (aC rfl dW)))) (by omega) ⟨(i+1),rfl,(yW aJ aP),(by omega),rfl⟩
   · refine bP (v:=.bool false) (fun X=>gW (e_f (by omega)) X) trivial rfl rfl rfl rfl rfl rfl ?_
     refine aj ?_
     repeat refine af ?_
     refine dH rfl ?_
     repeat refine af ?_
     refine Br ?_
     repeat refine af ?_
     refine fU (S:=fun X=>Pl.Ex w1 X) [(true,0,0),(true,1,1),(true,2,3),(true,3,7),(true,4,15),(true,7,31),(true,8,159),(true,9,415),(false,5,927),(false,6,959),(true,10,1023),(false,11,2047)] fo aR (by kernel_rfl) (yW (yW hE2 (yW aJ aP)) (Pl.Ex.drew _)) ?_
     have aW:=Pl.Ex.drew w4
     generalize w4.drew=w5 at *
     have mI:=zYz aW
     intro hS5
     have heq:i=k:=by have:=wT hko hik;have h9:=c4;rw [this] at h9;split at h9<;>omega
     refine aL (.pointer (some ⟨N1,0,none⟩)) hS5 rfl rfl rfl rfl (fun X=>by kernel_rfl) ?_
     refine iB (v:=.bool (decide (m<0))) Tryz.underlying4 rfl (fun X hX=>Pl.Cb.at (j:=0) (zZz ak hX) rfl) hS5 rfl rfl rfl rfl rfl ?_
     refine aL (.pointer (some ⟨N1,1,none⟩)) hS5 rfl rfl rfl rfl (fun X=>by kernel_rfl) ?_
     refine iB (v:=.slice Am (limbs (Int.natAbs m)).length cm) Tryz.underlying22 rfl (fun X hX=>Pl.Cb.at (j:=1) (zZz ak hX) rfl) hS5 rfl rfl rfl rfl rfl ?_
     refine aG hS5 rfl ?_
     refine bP (v:=.int .i64 (ex+((i:Nat):Int))) (fun X=>yt (by omega) X) hS5 rfl rfl rfl rfl rfl rfl ?_
     refine ay rfl rfl rfl rfl rfl (fun u X=>enters Tryz.func66 (by kernel_rfl) rfl u X) ?_
     refine Calls.mono (JH _ _ (Int.natAbs m) i (Un.below um (yW hE1 (yW hE2 (yW aJ (yW aP aW))))) (by omega) (Nat.le_trans lm (by omega)) _ rfl) ?_
     rintro e w6 ⟨vh,rfl,hvh,bO⟩
     have rC:=zYz bO
     have kD:=yW hS5 bO
     refine ⟨_,rfl,kD,?_⟩
     refine ay rfl rfl rfl rfl rfl (fun u X=>enters Tryz.func62 (by kernel_rfl) rfl u X) ?_
     refine Calls.mono (eY _ (decide (m<0)) _ _ hvh (Nat.le_trans (Sn.down lm (Nat.div_le_self _ _)) (by omega)) _ (aH _) (shl m (-(i:Int))) (by rw [heq];exact JK hko)) ?_
     rintro e w7 ⟨vz,rfl,hvz,cB⟩
     obtain ⟨Az,cz,rfl,uz⟩:=hvz
     have wm:=zYz cB
     have lJ:=yW kD cB
     refine ⟨_,rfl,lJ,?_⟩
     refine aL (.agg #[.bool (decide ((shl m (-(i:Int)))<0)),.slice Az (limbs (Int.natAbs (shl m (-(i:Int))))).length cz,.int .i64 (ex+((i:Nat):Int))]) lJ rfl rfl rfl rfl (fun X=>by kernel_rfl) ?_
     refine bz (new:=[.bool (decide ((shl m (-(i:Int)))<0)),.slice Az (limbs (Int.natAbs (shl m (-(i:Int))))).length cz,.int .i64 (ex+((i:Nat):Int))]) (zZz aA (yW aJ (yW aP (yW aW (yW bO cB))))) (by kernel_rfl) rfl (by simp [Value.oneCell']) rfl rfl rfl rfl rfl rfl (fun Y hY=>Pl.Ex.xs lJ hY (by omega)) ?_
     intro w8 iL bf
     have iX:=Pl.Ex.xs (yW hE2 (yW aJ (yW aP (yW aW (yW bO cB))))) iL (by omega)
     have EW:=Xs.size iL
     have Nr:=Pl.Ex.xs lJ iL (by omega)
     refine aj ?_
     have k5:=Un.xs uz iL (zZz aA (yW aJ (yW aP (yW aW (yW bO cB))))) (by simp)
     repeat refine af ?_
     exact aV rfl rfl bf Tryz.underlying26 rfl (by kernel_rfl) (⟨_,rfl,Dn.mk k5 (ug (heq ▸ hko)).1 (ug (heq ▸ hko)).2 (zZ lm (by omega)) (by omega) (by omega),(yW hE1 iX)⟩)
theorem kR {n:Int} (h:0≤n):((shl 1 n:Int):Rat)=2^n:=by
 rw [z8 h];unfold Dy.dv;exact Rat.one_mul _
theorem qa {n:Int} (h:n≤0):Rat.divInt 1 (shl 1 (-n))=2^n:=by
 rw [Rat.divInt_eq_div,kR (show 0 ≤ -n by omega)]
 have h1:=Dy.x8 n
 have h2:=Dy.D8 (-n)
 show (1:Rat)/2^(-n)=2^n
 grind
theorem jE (w:World) (n:Int) (J:Nat) (hJ:J≤28) (h1 : -(32*(J:Int))≤n) (h2:n≤32*(J:Int)) :
  Calls Tryz.prog 78 #[.int .i64 n] w fun e w'=>∃ u,e = .returned u∧Qn w' u ((2:Rat)^n) (J+1) (J+1)∧Pl.Ex w w':=by
 refine aN (n:=21) (vs:=[.int .i64 n]) Tryz.func78 rfl (by kernel_rfl) (by simp) ?_
 repeat refine af ?_
 refine ah (by kernel_rfl) ?_
 refine bK (z:=.agg #[.bool false,.slice none 0 0,.slice none 0 0]) (by kernel_rfl) rfl rfl rfl rfl (fun Y hY=>trivial) ?_
 intro N1 w1 hE1 bT ak
 have dP:=Pl.Cb.lt ak
 have jC:=zYz hE1
 replace ak:Pl.Cb w1 N1 41 [.bool false,.slice none 0 0,.slice none 0 0]:=ak
 refine aj ?_
 repeat refine af ?_
 refine ah (by kernel_rfl) ?_
 refine aG trivial rfl ?_
 by_cases c2:n≥0
 · refine bP (v:=.bool true) (fun X=>iP c2 X) trivial rfl rfl rfl rfl rfl rfl ?_
   refine aj ?_
   repeat refine af ?_
   refine fP rfl ?_
   repeat refine af ?_
   refine ah (by kernel_rfl) ?_
   refine ay rfl rfl rfl rfl rfl (fun u X=>enters Tryz.func53 (by kernel_rfl) rfl u X) ?_
   refine Calls.mono (uG _ 1 (by decide) (by decide)) ?_
   rintro e w2 ⟨v3,rfl,hv3,hE2⟩
   obtain ⟨A4,c5,rfl,u6⟩:=hv3
   have jM:=zYz hE2
   refine ⟨_,rfl,trivial,?_⟩
   refine aG trivial rfl ?_
   refine ay rfl rfl rfl rfl rfl (fun u X=>enters Tryz.func51 (by kernel_rfl) rfl u X) ?_
   refine Calls.mono (oM _ _ 1 n (Zn.of u6) (Sz.le (Sz.lit (K:=1) (by decide) (by decide)) (by decide)) (by omega) (by omega)) ?_
   rintro e w3 ⟨v7,rfl,hv7,aJ⟩
   obtain ⟨A8,c9,rfl,zK⟩:=hv7
   have jX:=zYz aJ
   refine ⟨_,rfl,trivial,?_⟩
   refine ay rfl rfl rfl rfl rfl (fun u X=>enters Tryz.func82 (by kernel_rfl) rfl u X) ?_
   refine Calls.mono (gp _ _ (shl 1 n) (1+J) (Zn.of zK) (jF (j:=J) (Sz.lit (K:=1) (by decide) (by decide)) (by omega) (Nat.le_refl _))) ?_
   rintro e w4 ⟨v11,rfl,jN,aP⟩
   obtain ⟨JL,c13,rD,c15,rfl,u16,G5,wU,yu⟩:=jN
   have kY:=zYz aP
   refine ⟨_,rfl,trivial,?_⟩
   refine bz (new:=[.bool (decide ((Rat.num (((shl 1 n):Int):Rat))<0)),.slice JL (limbs (Int.natAbs (Rat.num (((shl 1 n):Int):Rat)))).length c13,.slice rD (limbs (Rat.den (((shl 1 n):Int):Rat))).length c15]) (zZz ak (yW hE2 (yW aJ aP))) (by kernel_rfl) rfl (by simp [Value.oneCell']) rfl rfl rfl rfl rfl rfl (fun Y hY=>trivial) ?_
   intro w5 iW gQ
   have aW:=Pl.Ex.xs (yW hE1 (yW hE2 (yW aJ aP))) iW (by omega)
   have mI:=Xs.size iW
   refine aj ?_
   have k19:=Un.xs u16 iW (zZz ak (yW hE2 (yW aJ aP))) (by simp)
   have k20:=Un.xs G5 iW (zZz ak (yW hE2 (yW aJ aP))) (by simp)
   repeat refine af ?_
   exact aV rfl rfl gQ Tryz.underlying41 rfl (by kernel_rfl) (⟨_,rfl,Qn.le (by rw [← kR (show 0≤n by omega)];exact (Qn.mk k19 k20 wU yu)) (by omega) (by omega),aW⟩)
 · refine bP (v:=.bool false) (fun X=>jm c2 X) trivial rfl rfl rfl rfl rfl rfl ?_
   refine aj ?_
   repeat refine af ?_
   refine dH rfl ?_
   repeat refine af ?_
   refine fG ?_
   repeat refine af ?_
   refine ah (by kernel_rfl) ?_
   refine ay rfl rfl rfl rfl rfl (fun u X=>enters Tryz.func53 (by kernel_rfl) rfl u X) ?_
   refine Calls.mono (uG _ 1 (by decide) (by decide)) ?_
   rintro e w2 ⟨v3,rfl,hv3,hE2⟩
   obtain ⟨A4,c5,rfl,u6⟩:=hv3
   have jM:=zYz hE2
   refine ⟨_,rfl,trivial,?_⟩
   refine ay rfl rfl rfl rfl rfl (fun u X=>enters Tryz.func53 (by kernel_rfl) rfl u X) ?_
   refine Calls.mono (uG _ 1 (by decide) (by decide)) ?_
   rintro e w3 ⟨v7,rfl,hv7,aJ⟩
   obtain ⟨A8,c9,rfl,zK⟩:=hv7
   have jX:=zYz aJ
   refine ⟨_,rfl,trivial,?_⟩
   refine aG trivial rfl ?_
   refine qb (v:=.int .i64 (-n)) trivial rfl rfl rfl rfl rfl (fun X=>eH (by omega) X) ?_
   refine ay rfl rfl rfl rfl rfl (fun u X=>enters Tryz.func51 (by kernel_rfl) rfl u X) ?_
   refine Calls.mono (oM _ _ 1 (-n) (Zn.of zK) (Sz.le (Sz.lit (K:=1) (by decide) (by decide)) (by decide)) (by omega) (by omega)) ?_
   rintro e w4 ⟨v11,rfl,jN,aP⟩
   obtain ⟨JL,c13,rfl,Ox⟩:=jN
   have kY:=zYz aP
   refine ⟨_,rfl,trivial,?_⟩
   refine ay rfl rfl rfl rfl rfl (fun u X=>enters Tryz.func97 (by kernel_rfl) rfl u X) ?_
   refine Calls.mono (jf _ _ _ 1 (shl 1 (-n)) (Zn.of (Un.below u6 (yW aJ aP))) (Zn.of Ox) 1 (1+J) (Sz.lit (by decide) (by decide)) (jF (j:=J) (Sz.lit (K:=1) (by decide) (by decide)) (by omega) (Nat.le_refl _)) (by omega) (by omega) (by have:=Dy.wV (m:=1) (s := -n) (by decide) (by omega);exact Int.ne_of_gt this)) ?_
   rintro e w5 ⟨vq,rfl,rz,aW⟩
   obtain ⟨A1,c1,A2,c2,rfl,u1,u2,z1,z2⟩:=rz
   have mI:=zYz aW
   refine ⟨_,rfl,trivial,?_⟩
   refine aG trivial rfl ?_
   refine bK (z:=.agg #[.bool false,.slice none 0 0,.slice none 0 0]) (by kernel_rfl) rfl rfl rfl rfl (fun Y hY=>trivial) ?_
   intro Nt w6 bO EX eF
   have Mc:=Pl.Cb.lt eF
   have rC:=zYz bO
   replace eF:Pl.Cb w6 Nt 41 [.bool false,.slice none 0 0,.slice none 0 0]:=eF
   refine bz (new:=[.bool (decide ((Rat.num (Rat.divInt 1 (shl 1 (-n))))<0)),.slice A1 (limbs (Int.natAbs (Rat.num (Rat.divInt 1 (shl 1 (-n)))))).length c1,.slice A2 (limbs (Rat.den (Rat.divInt 1 (shl 1 (-n))))).length c2]) eF (by kernel_rfl) rfl (by simp [Value.oneCell']) rfl rfl rfl rfl rfl rfl (fun Y hY=>trivial) ?_
   intro w7 iM jZ
   have cB:=Pl.Ex.xs bO iM (by omega)
   have wm:=Xs.size iM
   refine aG trivial rfl ?_
   refine aj ?_
   repeat refine af ?_
   refine ah (by kernel_rfl) ?_
   refine bg (part:=[.bool (decide ((Rat.num (Rat.divInt 1 (shl 1 (-n))))<0)),.slice A1 (limbs (Int.natAbs (Rat.num (Rat.divInt 1 (shl 1 (-n)))))).length c1,.slice A2 (limbs (Rat.den (Rat.divInt 1 (shl 1 (-n))))).length c2]) jZ rfl Tryz.underlying41 rfl (by kernel_rfl) trivial rfl rfl rfl rfl rfl ?_
   refine bz (new:=[.bool (decide ((Rat.num (Rat.divInt 1 (shl 1 (-n))))<0)),.slice A1 (limbs (Int.natAbs (Rat.num (Rat.divInt 1 (shl 1 (-n)))))).length c1,.slice A2 (limbs (Rat.den (Rat.divInt 1 (shl 1 (-n))))).length c2]) (zZz ak (yW hE2 (yW aJ (yW aP (yW aW cB))))) (by kernel_rfl) rfl (by simp [Value.oneCell']) rfl rfl rfl rfl rfl rfl (fun Y hY=>trivial) ?_
   intro w8 iL gQ
   have iX:=Pl.Ex.xs (yW hE1 (yW hE2 (yW aJ (yW aP (yW aW cB))))) iL (by omega)
   have EW:=Xs.size iL
   have Md:=Pl.Cb.xs jZ iL (by simp;omega)
   refine aj ?_
   have k16:=Un.xs (Un.below u1 cB) iL (zZz ak (yW hE2 (yW aJ (yW aP (yW aW cB))))) (by simp)
   have k17:=Un.xs (Un.below u2 cB) iL (zZz ak (yW hE2 (yW aJ (yW aP (yW aW cB))))) (by simp)
   repeat refine af ?_
   exact aV rfl rfl gQ Tryz.underlying41 rfl (by kernel_rfl) (⟨_,rfl,Qn.le (by rw [← qa (show n≤0 by omega)];exact (Qn.mk k16 k17 z1 z2)) (by omega) (by omega),iX⟩)
theorem bY (w:World) (va:Value) (x:Rat) (L J:Nat) (lo hi:Int) (ha:Dn w va x L lo hi) (hL:L+J+1≤100) (hJ:J≤28) (h1 : -(32*(J:Int))≤lo) (h2:hi≤32*(J:Int)) :
  Calls Tryz.prog 36 #[va] w fun e w'=>∃ u,e = .returned u∧Qn w' u x (L+J+1) (J+2)∧Pl.Ex w w':=by
 obtain ⟨ma,ea,Aa,ca,rfl,ua,da⟩:=ha
 have yx:=da.lo
 have yz:=da.hi
 refine aN (n:=10) (vs:=[.agg #[.bool (decide (ma<0)),.slice Aa (limbs (Int.natAbs ma)).length ca,.int .i64 ea]]) Tryz.func36 rfl (by kernel_rfl) (by simp) ?_
 repeat refine af ?_
 refine ah (by kernel_rfl) ?_
 refine bF (cs:=[.bool (decide (ma<0)),.slice Aa (limbs (Int.natAbs ma)).length ca,.int .i64 ea]) rfl rfl rfl rfl rfl rfl (fun Y hY=>trivial) ?_
 intro N1 w1 hE1 bT ak
 have dP:=Pl.Cb.lt ak
 have jC:=zYz hE1
 refine bK (z:=.agg #[.bool false,.slice none 0 0,.slice none 0 0]) (by kernel_rfl) rfl rfl rfl rfl (fun Y hY=>trivial) ?_
 intro N2 w2 hE2 dU aA
 have iq:=Pl.Cb.lt aA
 have jM:=zYz hE2
 replace aA:Pl.Cb w2 N2 41 [.bool false,.slice none 0 0,.slice none 0 0]:=aA
 refine aj ?_
 repeat refine af ?_
 refine fU (S:=fun X=>Pl.Ex w1 X) [(true,0,0),(true,1,1),(true,3,3),(true,4,11),(false,2,27),(false,5,31),(false,6,63),(false,7,127)] fo aR (by kernel_rfl) (yW hE2 (Pl.Ex.drew _)) ?_
 have aJ:=Pl.Ex.drew w2
 generalize w2.drew=w3 at *
 have jX:=zYz aJ
 intro dL
 refine aL (.pointer (some ⟨N1,0,none⟩)) dL rfl rfl rfl rfl (fun X=>by kernel_rfl) ?_
 refine bn (part:=[.bool (decide (ma<0)),.slice Aa (limbs (Int.natAbs ma)).length ca]) (fun X hX=>zZz ak hX) rfl Tryz.underlying24 rfl (by kernel_rfl) dL rfl rfl rfl rfl rfl ?_
 refine aL (.pointer (some ⟨N1,2,none⟩)) dL rfl rfl rfl rfl (fun X=>by kernel_rfl) ?_
 refine iB (v:=.int .i64 ea) Tryz.underlying3 rfl (fun X hX=>Pl.Cb.at (j:=2) (zZz ak hX) rfl) dL rfl rfl rfl rfl rfl ?_
 refine ay rfl rfl rfl rfl rfl (fun u X=>enters Tryz.func82 (by kernel_rfl) rfl u X) ?_
 refine Calls.mono (gp _ _ ma L (Zn.of (Un.below ua (yW hE1 (yW hE2 aJ)))) da.sz) ?_
 rintro e w4 ⟨v3,rfl,hv3,aP⟩
 obtain ⟨A4,c5,A6,c7,rfl,u8,u9,Bt,Bu⟩:=hv3
 have kY:=zYz aP
 have fJ:=yW dL aP
 refine ⟨_,rfl,fJ,?_⟩
 refine ay rfl rfl rfl rfl rfl (fun u X=>enters Tryz.func78 (by kernel_rfl) rfl u X) ?_
 refine Calls.mono (jE _ ea J (by omega) (by omega) (by omega)) ?_
 rintro e w5 ⟨v11,rfl,jN,aW⟩
 obtain ⟨JL,c13,rD,c15,rfl,u16,G5,wU,yu⟩:=jN
 have mI:=zYz aW
 have hS5:=yW fJ aW
 refine ⟨_,rfl,hS5,?_⟩
 refine ay rfl rfl rfl rfl rfl (fun u X=>enters Tryz.func48 (by kernel_rfl) rfl u X) ?_
 refine Calls.mono (jg _ _ _ ((ma:Int):Rat) ((2:Rat)^ea) L 1 (J+1) (J+1) (Qn.mk (Un.below u8 aW) (Un.below u9 aW) Bt Bu) (Qn.mk u16 G5 wU yu) (L+(J+1)) (1+(J+1)) (by omega) (by omega) (by omega) (by omega)) ?_
 rintro e w6 ⟨v19,rfl,JM,bO⟩
 obtain ⟨S9,c21,Zb,c23,rfl,u24,u25,Pp,Pq⟩:=JM
 have rC:=zYz bO
 have kD:=yW hS5 bO
 refine ⟨_,rfl,kD,?_⟩
 refine bz (new:=[.bool (decide ((Rat.num (((ma:Int):Rat)*((2:Rat)^ea)))<0)),.slice S9 (limbs (Int.natAbs (Rat.num (((ma:Int):Rat)*((2:Rat)^ea))))).length c21,.slice Zb (limbs (Rat.den (((ma:Int):Rat)*((2:Rat)^ea)))).length c23]) (zZz aA (yW aJ (yW aP (yW aW bO)))) (by kernel_rfl) rfl (by simp [Value.oneCell']) rfl rfl rfl rfl rfl rfl (fun Y hY=>Pl.Ex.xs kD hY (by omega)) ?_
 intro w7 iM bf
 have cB:=Pl.Ex.xs (yW hE2 (yW aJ (yW aP (yW aW bO)))) iM (by omega)
 have wm:=Xs.size iM
 have lJ:=Pl.Ex.xs kD iM (by omega)
 refine aj ?_
 have k27:=Un.xs u24 iM (zZz aA (yW aJ (yW aP (yW aW bO)))) (by simp)
 have k28:=Un.xs u25 iM (zZz aA (yW aJ (yW aP (yW aW bO)))) (by simp)
 repeat refine af ?_
 exact aV rfl rfl bf Tryz.underlying41 rfl (by kernel_rfl) (⟨_,rfl,Qn.le (by rw [← da.val];exact (Qn.mk k27 k28 Pp Pq)) (by omega) (by omega),(yW hE1 cB)⟩)
end Go.Proofs.YtdpmbgomcjnohaaGreatDoor
namespace Go.Proofs.YtdpmbgomcjnohaaGreatDoor
open Pl
open Go.RowKit Rf
set_option linter.all false
set_option maxRecDepth 100000
set_option maxHeartbeats 8000000
theorem PS (j:Nat):fK (2^j)=j+1:=by
 have h1:=fB (n:=2^j) (k:=j+1) (Nat.pow_lt_pow_right (by decide) (by omega))
 have h2:=jQ (n:=2^j) (k:=j) (Nat.le_refl _)
 omega
theorem qP (w:World) (va:Value) (q:Rat) (L M:Nat) (ha:Qn w va q L M) (hd:∃ j:Nat,q.den=2^j) (hL:L≤20000) (hM:M≤20000) (lo2 hi2:Int) (h1:lo2 ≤ -(32*(M:Int))) (h2:32*(L:Int)≤hi2) :
  Calls Tryz.prog 75 #[va] w fun e w'=>∃ u,e = .returned u∧Dn w' u q L lo2 hi2∧Pl.Ex w w':=by
 obtain ⟨Aa,ca,Ba,ba,rfl,ua,ta,za,ya⟩:=ha
 obtain ⟨j,hj⟩:=hd
 have hjM:j<32*M:=by have:=ya;rw [hj] at this;have h3:=this.lt;exact (Nat.pow_lt_pow_iff_right (a:=2) (by decide)).1 (by rw [Nat.pow_mul];exact h3)
 refine aN (n:=10) (vs:=[.agg #[.bool (decide ((Rat.num q)<0)),.slice Aa (limbs (Int.natAbs (Rat.num q))).length ca,.slice Ba (limbs (Rat.den q)).length ba]]) Tryz.func75 rfl (by kernel_rfl) (by simp) ?_
 repeat refine af ?_
 refine ah (by kernel_rfl) ?_
 refine bF (cs:=[.bool (decide ((Rat.num q)<0)),.slice Aa (limbs (Int.natAbs (Rat.num q))).length ca,.slice Ba (limbs (Rat.den q)).length ba]) rfl rfl rfl rfl rfl rfl (fun Y hY=>trivial) ?_
 intro N1 w1 hE1 bT ak
 have dP:=Pl.Cb.lt ak
 have jC:=zYz hE1
 refine bK (z:=.agg #[.bool false,.slice none 0 0,.int .i64 0]) (by kernel_rfl) rfl rfl rfl rfl (fun Y hY=>trivial) ?_
 intro N2 w2 hE2 dU aA
 have iq:=Pl.Cb.lt aA
 have jM:=zYz hE2
 replace aA:Pl.Cb w2 N2 26 [.bool false,.slice none 0 0,.int .i64 0]:=aA
 refine aj ?_
 repeat refine af ?_
 refine fU (S:=fun X=>Pl.Ex w1 X) [(true,0,0),(true,1,1),(true,2,3),(true,3,7),(false,4,15),(true,5,31),(false,6,63),(false,7,127)] fo aR (by kernel_rfl) (yW hE2 (Pl.Ex.drew _)) ?_
 have aJ:=Pl.Ex.drew w2
 generalize w2.drew=w3 at *
 have jX:=zYz aJ
 intro dL
 refine aL (.pointer (some ⟨N1,0,none⟩)) dL rfl rfl rfl rfl (fun X=>by kernel_rfl) ?_
 refine bn (part:=[.bool (decide ((Rat.num q)<0)),.slice Aa (limbs (Int.natAbs (Rat.num q))).length ca]) (fun X hX=>zZz ak hX) rfl Tryz.underlying24 rfl (by kernel_rfl) dL rfl rfl rfl rfl rfl ?_
 refine aL (.pointer (some ⟨N1,2,none⟩)) dL rfl rfl rfl rfl (fun X=>by kernel_rfl) ?_
 refine iB (v:=.slice Ba (limbs (Rat.den q)).length ba) Tryz.underlying22 rfl (fun X hX=>Pl.Cb.at (j:=2) (zZz ak hX) rfl) dL rfl rfl rfl rfl rfl ?_
 refine ay rfl rfl rfl rfl rfl (fun u X=>enters Tryz.func114 (by kernel_rfl) rfl u X) ?_
 refine Calls.mono (LU _ _ (Rat.den q) (Un.below ta (yW hE1 (yW hE2 aJ))) (Sn.le ya (by omega)) _ rfl) ?_
 rintro e w4 ⟨rfl,aP⟩
 obtain ⟨b3,qb3⟩:∃ z9,((fK (Rat.den q):Nat):Int)=z9:=⟨_,rfl⟩
 rw [qb3]
 have gb3:0≤b3:=by omega
 have hb:b3=(j:Int)+1:=by rw [← qb3,hj,PS];omega
 have kY:=zYz aP
 have fJ:=yW dL aP
 refine ⟨_,rfl,fJ,?_⟩
 refine bP (v:=.int .i64 (1-b3)) (fun X=>jH (by omega) X) fJ rfl rfl rfl rfl rfl rfl ?_
 refine ay rfl rfl rfl rfl rfl (fun u X=>enters Tryz.func19 (by kernel_rfl) rfl u X) ?_
 refine Calls.mono (jh _ _ (Rat.num q) (1-b3) (Zn.of (Un.below ua (yW hE1 (yW hE2 (yW aJ aP))))) L za (by omega) (by omega) lo2 hi2 (by omega) (by omega) (by omega) (by omega)) ?_
 rintro e w5 ⟨v4,rfl,hv4,aW⟩
 obtain ⟨m5,e6,A7,c8,rfl,u9,dw⟩:=hv4
 have Zt:=dw.lo
 have Zu:=dw.hi
 have mI:=zYz aW
 have hS5:=yW fJ aW
 refine ⟨_,rfl,hS5,?_⟩
 refine bz (new:=[.bool (decide (m5<0)),.slice A7 (limbs (Int.natAbs m5)).length c8,.int .i64 e6]) (zZz aA (yW aJ (yW aP aW))) (by kernel_rfl) rfl (by simp [Value.oneCell']) rfl rfl rfl rfl rfl rfl (fun Y hY=>Pl.Ex.xs hS5 hY (by omega)) ?_
 intro w6 jY bf
 have bO:=Pl.Ex.xs (yW hE2 (yW aJ (yW aP aW))) jY (by omega)
 have rC:=Xs.size jY
 have kD:=Pl.Ex.xs hS5 jY (by omega)
 refine aj ?_
 have k11:=Un.xs u9 jY (zZz aA (yW aJ (yW aP aW))) (by simp)
 repeat refine af ?_
 exact aV rfl rfl bf Tryz.underlying26 rfl (by kernel_rfl) (⟨_,rfl,by have h9:=(Dn.mk k11 dw.can dw.val dw.sz dw.lo dw.hi);rw [show (1-b3:Int) = -(j:Int) by omega,Dy.Zr hj] at h9;exact h9,(yW hE1 bO)⟩)
theorem PT:(2:Rat)^(-1:Int)=(2:Rat)⁻¹:=by rw [Rat.zpow_neg,Rat.zpow_one]
theorem zh (w:World) (va vb:Value) (x y:Rat) (L J:Nat) (lo hi:Int) (ha:Dn w va x L lo hi) (hb:Dn w vb y L lo hi) (hJ:J≤28) (g1 : -(32*(J:Int))≤lo) (g2:hi≤32*(J:Int)) (K N:Nat) (hK:L+J+1+(J+2)+1≤K) (hN:J+2+(J+2)≤N) (k1:K≤100) (k2:N≤100) (lo2 hi2:Int) (h1:lo2 ≤ -(32*(N:Int))) (h2:32*(K:Int)≤hi2) :
  Calls Tryz.prog 27 #[va,vb] w fun e w'=>∃ u,e = .returned u∧Dn w' u (x+y) K lo2 hi2∧Pl.Ex w w':=by
 obtain ⟨ma,ea,Aa,ca,rfl,ua,da⟩:=ha
 have yx:=da.lo
 have yz:=da.hi
 obtain ⟨mb,eb,Ab,cb,rfl,ub,db⟩:=hb
 have Ny:=db.lo
 have Nz:=db.hi
 refine Rf.bQ (n:=11) [.a [.c 0 0,.c 0 1,.c 0 2],.a [.c 1 0,.c 1 1,.c 1 2]] [[.bool (decide (ma<0)),.slice Aa (limbs (Int.natAbs ma)).length ca,.int .i64 ea],[.bool (decide (mb<0)),.slice Ab (limbs (Int.natAbs mb)).length cb,.int .i64 eb]] [(0,(iK ma ea).S),(1,(iK mb eb).S)] Tryz.func27 rfl (by kernel_rfl) rfl rfl ⟨RS.in ⟨rfl,rfl,⟨Aa,ca,rfl⟩,ua⟩,RS.in ⟨rfl,rfl,⟨Ab,cb,rfl⟩,ub⟩,trivial⟩ ?_
 repeat refine Rf.aa ?_
 refine Rf.az (by kernel_rfl) ?_
 refine Rf.aD aK 0 rfl ?_
 refine Rf.aI ?_
 repeat refine Rf.aa ?_
 refine Rf.bM none fo ?_
 refine Rf.aO aK 7 3 rfl ?_
 refine Rf.aB 2 _ _ rfl rfl rfl rfl rfl rfl rfl rfl rfl (fun u X=>enters Tryz.func36 (by kernel_rfl) rfl u X) (fun α γ w h=>eZ 2 (bY _ _ x L J _ _ (iK.dn (h.r 0 rfl) da) (by omega) (by omega) (by omega) (by omega))) ?_
 refine Rf.aO aK 7 3 rfl ?_
 refine Rf.aB 3 _ _ rfl rfl rfl rfl rfl rfl rfl rfl rfl (fun u X=>enters Tryz.func36 (by kernel_rfl) rfl u X) (fun α γ w h=>eZ 3 (bY _ _ y L J _ _ (iK.dn (h.r 1 rfl) db) (by omega) (by omega) (by omega) (by omega))) ?_
 refine Rf.aB 4 _ _ rfl rfl rfl rfl rfl rfl rfl rfl rfl (fun u X=>enters Tryz.func46 (by kernel_rfl) rfl u X) (fun α γ w h=>eZ 4 (ig _ _ _ x y (L+J+1) (J+2) (L+J+1) (J+2) (h.r 2 rfl) (h.r 3 rfl) (max ((L+J+1)+(J+2)) ((L+J+1)+(J+2))+1) ((J+2)+(J+2)) (by omega) (by omega) (by omega) (by omega) (by omega))) ?_
 refine Rf.aB 5 _ _ rfl rfl rfl rfl rfl rfl rfl rfl rfl (fun u X=>enters Tryz.func75 (by kernel_rfl) rfl u X) (fun α γ w h=>qc 5 (qP _ _ (x+y) (max ((L+J+1)+(J+2)) ((L+J+1)+(J+2))+1) ((J+2)+(J+2)) (h.r 4 rfl) (qQ.den (qQ.add da.qQ db.qQ)) (by omega) (by omega) lo2 hi2 (by omega) (by omega))) ?_
 refine Rf.aO aK 7 3 rfl ?_
 refine Rf.dQ (by kernel_rfl) ?_
 refine Rf.bN [4] [2] [5] rfl rfl rfl ?_
 repeat refine Rf.aa ?_
 exact Rf.bI aK (fun _ _ h=>h) rfl rfl (fun α γ w h=>⟨_,rfl,Dn.le (h.r 5 rfl) (by omega) (by omega) (by omega),h.ex⟩)
theorem zi (w:World) (va vb:Value) (x y:Rat) (L J:Nat) (lo hi:Int) (ha:Dn w va x L lo hi) (hb:Dn w vb y L lo hi) (hJ:J≤28) (g1 : -(32*(J:Int))≤lo) (g2:hi≤32*(J:Int)) (K N:Nat) (hK:L+J+1+(J+2)+1≤K) (hN:J+2+(J+2)≤N) (k1:K≤100) (k2:N≤100) (lo2 hi2:Int) (h1:lo2 ≤ -(32*(N:Int))) (h2:32*(K:Int)≤hi2) :
  Calls Tryz.prog 29 #[va,vb] w fun e w'=>∃ u,e = .returned u∧Dn w' u (x-y) K lo2 hi2∧Pl.Ex w w':=by
 obtain ⟨ma,ea,Aa,ca,rfl,ua,da⟩:=ha
 have yx:=da.lo
 have yz:=da.hi
 obtain ⟨mb,eb,Ab,cb,rfl,ub,db⟩:=hb
 have Ny:=db.lo
 have Nz:=db.hi
 refine Rf.bQ (n:=11) [.a [.c 0 0,.c 0 1,.c 0 2],.a [.c 1 0,.c 1 1,.c 1 2]] [[.bool (decide (ma<0)),.slice Aa (limbs (Int.natAbs ma)).length ca,.int .i64 ea],[.bool (decide (mb<0)),.slice Ab (limbs (Int.natAbs mb)).length cb,.int .i64 eb]] [(0,(iK ma ea).S),(1,(iK mb eb).S)] Tryz.func29 rfl (by kernel_rfl) rfl rfl ⟨RS.in ⟨rfl,rfl,⟨Aa,ca,rfl⟩,ua⟩,RS.in ⟨rfl,rfl,⟨Ab,cb,rfl⟩,ub⟩,trivial⟩ ?_
 repeat refine Rf.aa ?_
 refine Rf.az (by kernel_rfl) ?_
 refine Rf.aD aK 0 rfl ?_
 refine Rf.aI ?_
 repeat refine Rf.aa ?_
 refine Rf.bM none fo ?_
 refine Rf.aO aK 7 3 rfl ?_
 refine Rf.aB 2 _ _ rfl rfl rfl rfl rfl rfl rfl rfl rfl (fun u X=>enters Tryz.func36 (by kernel_rfl) rfl u X) (fun α γ w h=>eZ 2 (bY _ _ x L J _ _ (iK.dn (h.r 0 rfl) da) (by omega) (by omega) (by omega) (by omega))) ?_
 refine Rf.aO aK 7 3 rfl ?_
 refine Rf.aB 3 _ _ rfl rfl rfl rfl rfl rfl rfl rfl rfl (fun u X=>enters Tryz.func36 (by kernel_rfl) rfl u X) (fun α γ w h=>eZ 3 (bY _ _ y L J _ _ (iK.dn (h.r 1 rfl) db) (by omega) (by omega) (by omega) (by omega))) ?_
 refine Rf.aB 4 _ _ rfl rfl rfl rfl rfl rfl rfl rfl rfl (fun u X=>enters Tryz.func47 (by kernel_rfl) rfl u X) (fun α γ w h=>eZ 4 (jD _ _ _ x y (L+J+1) (J+2) (L+J+1) (J+2) (h.r 2 rfl) (h.r 3 rfl) (max ((L+J+1)+(J+2)) ((L+J+1)+(J+2))+1) ((J+2)+(J+2)) (by omega) (by omega) (by omega) (by omega) (by omega))) ?_
 refine Rf.aB 5 _ _ rfl rfl rfl rfl rfl rfl rfl rfl rfl (fun u X=>enters Tryz.func75 (by kernel_rfl) rfl u X) (fun α γ w h=>qc 5 (qP _ _ (x-y) (max ((L+J+1)+(J+2)) ((L+J+1)+(J+2))+1) ((J+2)+(J+2)) (h.r 4 rfl) (qQ.den (qQ.sub da.qQ db.qQ)) (by omega) (by omega) lo2 hi2 (by omega) (by omega))) ?_
 refine Rf.aO aK 7 3 rfl ?_
 refine Rf.dQ (by kernel_rfl) ?_
 refine Rf.bN [4] [2] [5] rfl rfl rfl ?_
 repeat refine Rf.aa ?_
 exact Rf.bI aK (fun _ _ h=>h) rfl rfl (fun α γ w h=>⟨_,rfl,Dn.le (h.r 5 rfl) (by omega) (by omega) (by omega),h.ex⟩)
theorem zk (w:World) (va vb:Value) (x y:Rat) (L J:Nat) (lo hi:Int) (ha:Dn w va x L lo hi) (hb:Dn w vb y L lo hi) (hJ:J≤28) (g1 : -(32*(J:Int))≤lo) (g2:hi≤32*(J:Int)) (K N:Nat) (hK:L+J+1+(L+J+1)≤K) (hN:J+2+(J+2)≤N) (k1:K≤100) (k2:N≤100) (lo2 hi2:Int) (h1:lo2 ≤ -(32*(N:Int))) (h2:32*(K:Int)≤hi2) :
  Calls Tryz.prog 31 #[va,vb] w fun e w'=>∃ u,e = .returned u∧Dn w' u (x*y) K lo2 hi2∧Pl.Ex w w':=by
 obtain ⟨ma,ea,Aa,ca,rfl,ua,da⟩:=ha
 have yx:=da.lo
 have yz:=da.hi
 obtain ⟨mb,eb,Ab,cb,rfl,ub,db⟩:=hb
 have Ny:=db.lo
 have Nz:=db.hi
 refine Rf.bQ (n:=11) [.a [.c 0 0,.c 0 1,.c 0 2],.a [.c 1 0,.c 1 1,.c 1 2]] [[.bool (decide (ma<0)),.slice Aa (limbs (Int.natAbs ma)).length ca,.int .i64 ea],[.bool (decide (mb<0)),.slice Ab (limbs (Int.natAbs mb)).length cb,.int .i64 eb]] [(0,(iK ma ea).S),(1,(iK mb eb).S)] Tryz.func31 rfl (by kernel_rfl) rfl rfl ⟨RS.in ⟨rfl,rfl,⟨Aa,ca,rfl⟩,ua⟩,RS.in ⟨rfl,rfl,⟨Ab,cb,rfl⟩,ub⟩,trivial⟩ ?_
 repeat refine Rf.aa ?_
 refine Rf.az (by kernel_rfl) ?_
 refine Rf.aD aK 0 rfl ?_
 refine Rf.aI ?_
 repeat refine Rf.aa ?_
 refine Rf.bM none fo ?_
 refine Rf.aO aK 7 3 rfl ?_
 refine Rf.aB 2 _ _ rfl rfl rfl rfl rfl rfl rfl rfl rfl (fun u X=>enters Tryz.func36 (by kernel_rfl) rfl u X) (fun α γ w h=>eZ 2 (bY _ _ x L J _ _ (iK.dn (h.r 0 rfl) da) (by omega) (by omega) (by omega) (by omega))) ?_
 refine Rf.aO aK 7 3 rfl ?_
 refine Rf.aB 3 _ _ rfl rfl rfl rfl rfl rfl rfl rfl rfl (fun u X=>enters Tryz.func36 (by kernel_rfl) rfl u X) (fun α γ w h=>eZ 3 (bY _ _ y L J _ _ (iK.dn (h.r 1 rfl) db) (by omega) (by omega) (by omega) (by omega))) ?_
 refine Rf.aB 4 _ _ rfl rfl rfl rfl rfl rfl rfl rfl rfl (fun u X=>enters Tryz.func48 (by kernel_rfl) rfl u X) (fun α γ w h=>eZ 4 (jg _ _ _ x y (L+J+1) (J+2) (L+J+1) (J+2) (h.r 2 rfl) (h.r 3 rfl) ((L+J+1)+(L+J+1)) ((J+2)+(J+2)) (by omega) (by omega) (by omega) (by omega))) ?_
 refine Rf.aB 5 _ _ rfl rfl rfl rfl rfl rfl rfl rfl rfl (fun u X=>enters Tryz.func75 (by kernel_rfl) rfl u X) (fun α γ w h=>qc 5 (qP _ _ (x*y) ((L+J+1)+(L+J+1)) ((J+2)+(J+2)) (h.r 4 rfl) (qQ.den (qQ.mul da.qQ db.qQ)) (by omega) (by omega) lo2 hi2 (by omega) (by omega))) ?_
 refine Rf.aO aK 7 3 rfl ?_
 refine Rf.dQ (by kernel_rfl) ?_
 refine Rf.bN [4] [2] [5] rfl rfl rfl ?_
 repeat refine Rf.aa ?_
 exact Rf.bI aK (fun _ _ h=>h) rfl rfl (fun α γ w h=>⟨_,rfl,Dn.le (h.r 5 rfl) (by omega) (by omega) (by omega),h.ex⟩)
theorem zm (w:World) (va vb:Value) (x y:Rat) (L J:Nat) (lo hi:Int) (ha:Dn w va x L lo hi) (hb:Dn w vb y L lo hi) (hJ:J≤28) (g1 : -(32*(J:Int))≤lo) (g2:hi≤32*(J:Int)) (K N:Nat) (hK:L+J+1+(J+2)+1+2≤K) (hN:J+2+(J+2)+2≤N) (k1:K≤100) (k2:N≤100) (lo2 hi2:Int) (h1:lo2 ≤ -(32*(N:Int))) (h2:32*(K:Int)≤hi2) :
  Calls Tryz.prog 33 #[va,vb] w fun e w'=>∃ u,e = .returned u∧Dn w' u ((x+y)/2) K lo2 hi2∧Pl.Ex w w':=by
 obtain ⟨ma,ea,Aa,ca,rfl,ua,da⟩:=ha
 have yx:=da.lo
 have yz:=da.hi
 obtain ⟨mb,eb,Ab,cb,rfl,ub,db⟩:=hb
 have Ny:=db.lo
 have Nz:=db.hi
 refine Rf.bQ (n:=13) [.a [.c 0 0,.c 0 1,.c 0 2],.a [.c 1 0,.c 1 1,.c 1 2]] [[.bool (decide (ma<0)),.slice Aa (limbs (Int.natAbs ma)).length ca,.int .i64 ea],[.bool (decide (mb<0)),.slice Ab (limbs (Int.natAbs mb)).length cb,.int .i64 eb]] [(0,(iK ma ea).S),(1,(iK mb eb).S)] Tryz.func33 rfl (by kernel_rfl) rfl rfl ⟨RS.in ⟨rfl,rfl,⟨Aa,ca,rfl⟩,ua⟩,RS.in ⟨rfl,rfl,⟨Ab,cb,rfl⟩,ub⟩,trivial⟩ ?_
 repeat refine Rf.aa ?_
 refine Rf.az (by kernel_rfl) ?_
 refine Rf.aD aK 0 rfl ?_
 refine Rf.aI ?_
 repeat refine Rf.aa ?_
 refine Rf.bM none fo ?_
 refine Rf.aO aK 9 3 rfl ?_
 refine Rf.aB 2 _ _ rfl rfl rfl rfl rfl rfl rfl rfl rfl (fun u X=>enters Tryz.func36 (by kernel_rfl) rfl u X) (fun α γ w h=>eZ 2 (bY _ _ x L J _ _ (iK.dn (h.r 0 rfl) da) (by omega) (by omega) (by omega) (by omega))) ?_
 refine Rf.aO aK 9 3 rfl ?_
 refine Rf.aB 3 _ _ rfl rfl rfl rfl rfl rfl rfl rfl rfl (fun u X=>enters Tryz.func36 (by kernel_rfl) rfl u X) (fun α γ w h=>eZ 3 (bY _ _ y L J _ _ (iK.dn (h.r 1 rfl) db) (by omega) (by omega) (by omega) (by omega))) ?_
 refine Rf.aB 4 _ _ rfl rfl rfl rfl rfl rfl rfl rfl rfl (fun u X=>enters Tryz.func46 (by kernel_rfl) rfl u X) (fun α γ w h=>eZ 4 (ig _ _ _ x y (L+J+1) (J+2) (L+J+1) (J+2) (h.r 2 rfl) (h.r 3 rfl) (max ((L+J+1)+(J+2)) ((L+J+1)+(J+2))+1) ((J+2)+(J+2)) (by omega) (by omega) (by omega) (by omega) (by omega))) ?_
 refine Rf.aB 5 _ _ rfl rfl rfl rfl rfl rfl rfl rfl rfl (fun u X=>enters Tryz.func78 (by kernel_rfl) rfl u X) (fun α γ w h=>eZ 5 (jE _ (-1) 1 (by omega) (by omega) (by omega))) ?_
 refine Rf.aB 6 _ _ rfl rfl rfl rfl rfl rfl rfl rfl rfl (fun u X=>enters Tryz.func48 (by kernel_rfl) rfl u X) (fun α γ w h=>eZ 6 (jg _ _ _ (x+y) ((2:Rat)^(-1)) (max ((L+J+1)+(J+2)) ((L+J+1)+(J+2))+1) ((J+2)+(J+2)) 2 2 (h.r 4 rfl) (h.r 5 rfl) ((max ((L+J+1)+(J+2)) ((L+J+1)+(J+2))+1)+2) (((J+2)+(J+2))+2) (by omega) (by omega) (by omega) (by omega))) ?_
 refine Rf.aB 7 _ _ rfl rfl rfl rfl rfl rfl rfl rfl rfl (fun u X=>enters Tryz.func75 (by kernel_rfl) rfl u X) (fun α γ w h=>qc 7 (qP _ _ ((x+y)*((2:Rat)^(-1))) ((max ((L+J+1)+(J+2)) ((L+J+1)+(J+2))+1)+2) (((J+2)+(J+2))+2) (h.r 6 rfl) (qQ.den (qQ.mul (qQ.add da.qQ db.qQ) (qQ.pow _))) (by omega) (by omega) lo2 hi2 (by omega) (by omega))) ?_
 refine Rf.aO aK 9 3 rfl ?_
 refine Rf.dQ (by kernel_rfl) ?_
 refine Rf.bN [4] [2] [7] rfl rfl rfl ?_
 repeat refine Rf.aa ?_
 exact Rf.bI aK (fun _ _ h=>h) rfl rfl (fun α γ w h=>⟨_,rfl,Dn.le (by have h9:=(h.r 7 rfl);rw [Rat.div_def,← PT];exact h9) (by omega) (by omega) (by omega),h.ex⟩)
theorem zn (w:World) (va vb:Value) (x y:Rat) (L J:Nat) (lo hi:Int) (ha:Dn w va x L lo hi) (hb:Dn w vb y L lo hi) (hJ:J≤28) (hL:L+J+1≤100) (g1 : -(32*(J:Int))≤lo) (g2:hi≤32*(J:Int)) :
  Calls Tryz.prog 21 #[va,vb] w fun e w'=>∃ k:Int,e = .returned (.int .i64 k)∧ET x y k∧Pl.Ex w w':=by
 obtain ⟨ma,ea,Aa,ca,rfl,ua,da⟩:=ha
 have yx:=da.lo
 have yz:=da.hi
 obtain ⟨mb,eb,Ab,cb,rfl,ub,db⟩:=hb
 have Ny:=db.lo
 have Nz:=db.hi
 refine Rf.bQ (n:=10) [.a [.c 0 0,.c 0 1,.c 0 2],.a [.c 1 0,.c 1 1,.c 1 2]] [[.bool (decide (ma<0)),.slice Aa (limbs (Int.natAbs ma)).length ca,.int .i64 ea],[.bool (decide (mb<0)),.slice Ab (limbs (Int.natAbs mb)).length cb,.int .i64 eb]] [(0,(iK ma ea).S),(1,(iK mb eb).S)] Tryz.func21 rfl (by kernel_rfl) rfl rfl ⟨RS.in ⟨rfl,rfl,⟨Aa,ca,rfl⟩,ua⟩,RS.in ⟨rfl,rfl,⟨Ab,cb,rfl⟩,ub⟩,trivial⟩ ?_
 repeat refine Rf.aa ?_
 refine Rf.az (by kernel_rfl) ?_
 refine Rf.aD aK 0 rfl ?_
 refine Rf.aI ?_
 repeat refine Rf.aa ?_
 refine Rf.bM none fo ?_
 refine Rf.aO aK 6 2 rfl ?_
 refine Rf.aB 2 _ _ rfl rfl rfl rfl rfl rfl rfl rfl rfl (fun u X=>enters Tryz.func36 (by kernel_rfl) rfl u X) (fun α γ w h=>eZ 2 (bY _ _ x L J _ _ (iK.dn (h.r 0 rfl) da) (by omega) (by omega) (by omega) (by omega))) ?_
 refine Rf.aO aK 6 2 rfl ?_
 refine Rf.aB 3 _ _ rfl rfl rfl rfl rfl rfl rfl rfl rfl (fun u X=>enters Tryz.func36 (by kernel_rfl) rfl u X) (fun α γ w h=>eZ 3 (bY _ _ y L J _ _ (iK.dn (h.r 1 rfl) db) (by omega) (by omega) (by omega) (by omega))) ?_
 refine Rf.aB 4 _ _ rfl rfl rfl rfl rfl rfl rfl rfl rfl (fun u X=>enters Tryz.func49 (by kernel_rfl) rfl u X) (fun α γ w h=>nZ 4 (fF _ _ _ x y (L+J+1) (J+2) (L+J+1) (J+2) (h.r 2 rfl) (h.r 3 rfl) (by omega) (by omega))) ?_
 refine Rf.aO aK 6 2 rfl ?_
 refine Rf.dQ (by kernel_rfl) ?_
 refine Rf.bN [4] [] [4] rfl rfl rfl ?_
 repeat refine Rf.aa ?_
 exact Rf.bI aK (fun _ _ h=>h) rfl rfl (fun α γ w h=>by obtain ⟨k,e9,hk⟩:=h.r 4 rfl;exact ⟨k,congrArg Ending.returned e9,hk,h.ex⟩)
theorem xx (w:World) (va:Value) (x:Rat) (L:Nat) (lo hi:Int) (ha:Dn w va x L lo hi) (hL:L≤1000000) :
  Calls Tryz.prog 23 #[va] w fun e w'=>∃ k:Int,e = .returned (.int .i64 k)∧EP x k∧Pl.Ex w w':=by
 obtain ⟨ma,ea,Aa,ca,rfl,ua,da⟩:=ha
 have yx:=da.lo
 have yz:=da.hi
 refine aN (n:=6) (vs:=[.agg #[.bool (decide (ma<0)),.slice Aa (limbs (Int.natAbs ma)).length ca,.int .i64 ea]]) Tryz.func23 rfl (by kernel_rfl) (by simp) ?_
 repeat refine af ?_
 refine ah (by kernel_rfl) ?_
 refine bF (cs:=[.bool (decide (ma<0)),.slice Aa (limbs (Int.natAbs ma)).length ca,.int .i64 ea]) rfl rfl rfl rfl rfl rfl (fun Y hY=>trivial) ?_
 intro N1 w1 hE1 bT ak
 have dP:=Pl.Cb.lt ak
 have jC:=zYz hE1
 refine aG trivial rfl ?_
 refine aj ?_
 repeat refine af ?_
 refine ah (by kernel_rfl) ?_
 refine aL (.pointer (some ⟨N1,0,none⟩)) trivial rfl rfl rfl rfl (fun X=>by kernel_rfl) ?_
 refine bg (part:=[.bool (decide (ma<0)),.slice Aa (limbs (Int.natAbs ma)).length ca]) ak rfl Tryz.underlying24 rfl (by kernel_rfl) trivial rfl rfl rfl rfl rfl ?_
 refine ay rfl rfl rfl rfl rfl (fun u X=>enters Tryz.func52 (by kernel_rfl) rfl u X) ?_
 refine Calls.mono (Bh _ _ ma (Zn.of (Un.below ua hE1)) ((Sz.le da.sz (by omega))) _ rfl) ?_
 rintro e w2 ⟨rfl,hE2⟩
 obtain ⟨k2,WZ⟩:∃ z9,Int.sign ma=z9:=⟨_,rfl⟩
 rw [WZ]
 have Yy:=qL WZ
 have jM:=zYz hE2
 refine ⟨_,rfl,trivial,?_⟩
 refine aG trivial rfl ?_
 refine aj ?_
 repeat refine af ?_
 exact aZ rfl rfl  (⟨k2,rfl,PU da.val WZ,(yW hE1 hE2)⟩)
theorem zo (w:World) (va:Value) (x:Rat) (L:Nat) (lo hi:Int) (ha:Dn w va x L lo hi) (hL:L≤1000000) :
  Calls Tryz.prog 25 #[va] w fun e w'=>∃ u,e = .returned u∧Dn w' u (-x) L lo hi∧Pl.Ex w w':=by
 obtain ⟨ma,ea,Aa,ca,rfl,ua,da⟩:=ha
 have yx:=da.lo
 have yz:=da.hi
 refine aN (n:=9) (vs:=[.agg #[.bool (decide (ma<0)),.slice Aa (limbs (Int.natAbs ma)).length ca,.int .i64 ea]]) Tryz.func25 rfl (by kernel_rfl) (by simp) ?_
 repeat refine af ?_
 refine ah (by kernel_rfl) ?_
 refine bF (cs:=[.bool (decide (ma<0)),.slice Aa (limbs (Int.natAbs ma)).length ca,.int .i64 ea]) rfl rfl rfl rfl rfl rfl (fun Y hY=>trivial) ?_
 intro N1 w1 hE1 bT ak
 have dP:=Pl.Cb.lt ak
 have jC:=zYz hE1
 refine bK (z:=.agg #[.bool false,.slice none 0 0,.int .i64 0]) (by kernel_rfl) rfl rfl rfl rfl (fun Y hY=>trivial) ?_
 intro N2 w2 hE2 dU aA
 have iq:=Pl.Cb.lt aA
 have jM:=zYz hE2
 replace aA:Pl.Cb w2 N2 26 [.bool false,.slice none 0 0,.int .i64 0]:=aA
 refine aj ?_
 repeat refine af ?_
 refine fU (S:=fun X=>Pl.Ex w1 X) [(true,0,0),(true,1,1),(true,3,3),(true,4,11),(false,2,27),(true,5,31),(false,6,63)] fo aR (by kernel_rfl) (yW hE2 (Pl.Ex.drew _)) ?_
 have aJ:=Pl.Ex.drew w2
 generalize w2.drew=w3 at *
 have jX:=zYz aJ
 intro dL
 refine aL (.pointer (some ⟨N1,0,none⟩)) dL rfl rfl rfl rfl (fun X=>by kernel_rfl) ?_
 refine bn (part:=[.bool (decide (ma<0)),.slice Aa (limbs (Int.natAbs ma)).length ca]) (fun X hX=>zZz ak hX) rfl Tryz.underlying24 rfl (by kernel_rfl) dL rfl rfl rfl rfl rfl ?_
 refine aL (.pointer (some ⟨N1,2,none⟩)) dL rfl rfl rfl rfl (fun X=>by kernel_rfl) ?_
 refine iB (v:=.int .i64 ea) Tryz.underlying3 rfl (fun X hX=>Pl.Cb.at (j:=2) (zZz ak hX) rfl) dL rfl rfl rfl rfl rfl ?_
 refine ay rfl rfl rfl rfl rfl (fun u X=>enters Tryz.func72 (by kernel_rfl) rfl u X) ?_
 refine Calls.mono (D7 _ _ ma (Zn.of (Un.below ua (yW hE1 (yW hE2 aJ)))) (Sz.le da.sz (by omega)) _ rfl) ?_
 rintro e w4 ⟨v3,rfl,hv3,aP⟩
 obtain ⟨A4,c5,rfl,u6⟩:=hv3
 have kY:=zYz aP
 have fJ:=yW dL aP
 refine ⟨_,rfl,fJ,?_⟩
 refine aL (.agg #[.bool (decide ((-ma)<0)),.slice A4 (limbs (Int.natAbs (-ma))).length c5,.int .i64 ea]) fJ rfl rfl rfl rfl (fun X=>by kernel_rfl) ?_
 refine bz (new:=[.bool (decide ((-ma)<0)),.slice A4 (limbs (Int.natAbs (-ma))).length c5,.int .i64 ea]) (zZz aA (yW aJ aP)) (by kernel_rfl) rfl (by simp [Value.oneCell']) rfl rfl rfl rfl rfl rfl (fun Y hY=>Pl.Ex.xs fJ hY (by omega)) ?_
 intro w5 iW bf
 have aW:=Pl.Ex.xs (yW hE2 (yW aJ aP)) iW (by omega)
 have mI:=Xs.size iW
 have hS5:=Pl.Ex.xs fJ iW (by omega)
 refine aj ?_
 have k7:=Un.xs u6 iW (zZz aA (yW aJ aP)) (by simp)
 repeat refine af ?_
 exact aV rfl rfl bf Tryz.underlying26 rfl (by kernel_rfl) (⟨_,rfl,Dn.mk k7 (Mj da.can) (PN da.val) (Sz.neg da.sz) da.lo da.hi,(yW hE1 aW)⟩)
end Go.Proofs.YtdpmbgomcjnohaaGreatDoor
namespace Go.Proofs.YtdpmbgomcjnohaaGreatDoor
open Pl
open Go.RowKit 
set_option linter.all false
set_option maxRecDepth 100000
set_option maxHeartbeats 8000000
theorem PV {xs:List Nat} {b:Bool} (hx:∀ x∈xs,x<4294967296) (h:(eO xs&&!(b&&decide (xs.length=0)))=true):∃ z:Int,xs=limbs z.natAbs∧b=decide (z<0)∧Sz z 65536:=by
 rw [Bool.and_eq_true] at h
 obtain ⟨h1,h2⟩:=h
 unfold eO at h1
 rw [Bool.and_eq_true,decide_eq_true_iff,Bool.or_eq_true,List.isEmpty_iff,bne_iff_ne] at h1
 obtain ⟨h3,h4⟩:=h1
 have h5:limbs (val xs)=xs:=yI xs hx fun hne=>h4.resolve_left hne
 refine ⟨sg b (val xs),by rw [sG,h5],?_,show (limbs (sg b (val xs)).natAbs).length≤65536 by rw [sG,h5];exact h3⟩
 rw [JU]
 cases b with
 | false=>rfl
 | true =>
  have h6:¬ xs.length=0:=by simpa using h2
  rw [decide_eq_true (show 0<val xs from Nat.pos_of_ne_zero fun h7=>h6 (by rw [← h5,h7,aX];rfl))];rfl
theorem nA {w:World} {v:Value} {xs:List Nat} {b:Bool} (h:U w v xs) (k:Nat):Sz (sg b (dM xs k)) k:=by
 show (limbs (sg b (dM xs k)).natAbs).length≤k
 rw [sG];exact kX xs k h.lim
def gN (z:Int):Nat:=(BitVec.ofInt 64 z&&&BitVec.ofInt 64 65535).toNat
theorem oo (z:Int):gN z≤65535:=by unfold gN;rw [BitVec.toNat_and];exact Nat.and_le_right
theorem sH (z:Int) (T:TypeId) (x y:Operand) (X:World):Bn Tryz.prog .and T x y (.int .i64 z) (.int .i64 65535) X = .ok (.int .i64 ((gN z:Nat):Int)) X:=by
 have h:=oo z
 have e:IntKind.i64.wrap ((gN z:Nat):Int)=((gN z:Nat):Int):=Oy (by omega) (by omega)
 show (do eqGuard .and T x y (.int .i64 z) (.int .i64 65535);binOp .and T (.int .i64 z) (.int .i64 65535):Sem Value).run Tryz.prog X=_
 have h2:(Op.intBits .and .i64 z 65535).run Tryz.prog X = .ok (.int .i64 (IntKind.i64.wrap ((gN z:Nat):Int))) X:=rfl
 rw [e] at h2
 exact h2
def sI (b:Bool) (xs:List Nat) (ee:Int) (k:Nat):Rat:=Dy.dv (sg b (dM xs k)) (((gN ee%401:Nat):Int)-200)
theorem NA (w:World) (b:Bool) (A:Option Addr) (c:Nat) (xs:List Nat) (ee:Int) (hu:U w (.slice A xs.length c) xs) (hr:(eO xs&&!(b&&decide (xs.length=0)))=false) :
  Calls Tryz.prog 13 #[.agg #[.bool b,.slice A xs.length c,.int .i64 ee]] w fun e w'=>e = .returned (.bool false)∧Pl.Ex w w':=by
 refine aN (n:=31) (vs:=[.agg #[.bool b,.slice A xs.length c,.int .i64 ee]]) Tryz.func13 rfl (by kernel_rfl) (by simp) ?_
 repeat refine af ?_
 refine ah (by kernel_rfl) ?_
 refine bF (cs:=[.bool b,.slice A xs.length c,.int .i64 ee]) rfl rfl rfl rfl rfl rfl (fun Y hY=>trivial) ?_
 intro N1 w1 hE1 bT ak
 have dP:=Pl.Cb.lt ak
 have jC:=zYz hE1
 refine aG trivial rfl ?_
 refine aj ?_
 repeat refine af ?_
 refine ah (by kernel_rfl) ?_
 refine aL (.pointer (some ⟨N1,0,none⟩)) trivial rfl rfl rfl rfl (fun X=>by kernel_rfl) ?_
 refine bg (part:=[.bool b,.slice A xs.length c]) ak rfl Tryz.underlying24 rfl (by kernel_rfl) trivial rfl rfl rfl rfl rfl ?_
 refine ay rfl rfl rfl rfl rfl (fun u X=>enters Tryz.func59 (by kernel_rfl) rfl u X) ?_
 refine Calls.mono (PW _ _ _ _ (Ri.below (⟨A,c,rfl,hu⟩:Ri w _ b xs) hE1) false hr) ?_
 rintro e w2 ⟨rfl,hE2⟩
 have jM:=zYz hE2
 refine ⟨_,rfl,trivial,?_⟩
 refine qb (v:=.bool true) trivial rfl rfl rfl rfl rfl (fun X=>rfl) ?_
 refine aG trivial rfl ?_
 refine aj ?_
 repeat refine af ?_
 refine fP rfl ?_
 repeat refine af ?_
 refine ah (by kernel_rfl) ?_
 refine aG trivial rfl ?_
 refine aj ?_
 repeat refine af ?_
 exact aZ rfl rfl  (⟨rfl,(yW hE1 hE2)⟩)
theorem JV (w:World) (b:Bool) (A:Option Addr) (c:Nat) (xs:List Nat) (ee:Int) (hu:U w (.slice A xs.length c) xs) (hr:(eO xs&&!(b&&decide (xs.length=0)))=false) :
  Calls Tryz.prog 14 #[.agg #[.bool b,.slice A xs.length c,.int .i64 ee]] w fun e w'=>e = .returned (.bool false)∧Pl.Ex w w':=by
 refine aN (n:=32) (vs:=[.agg #[.bool b,.slice A xs.length c,.int .i64 ee]]) Tryz.func14 rfl (by kernel_rfl) (by simp) ?_
 repeat refine af ?_
 refine ah (by kernel_rfl) ?_
 refine bF (cs:=[.bool b,.slice A xs.length c,.int .i64 ee]) rfl rfl rfl rfl rfl rfl (fun Y hY=>trivial) ?_
 intro N1 w1 hE1 bT ak
 have dP:=Pl.Cb.lt ak
 have jC:=zYz hE1
 refine aG trivial rfl ?_
 refine aj ?_
 repeat refine af ?_
 refine ah (by kernel_rfl) ?_
 refine aL (.pointer (some ⟨N1,0,none⟩)) trivial rfl rfl rfl rfl (fun X=>by kernel_rfl) ?_
 refine bg (part:=[.bool b,.slice A xs.length c]) ak rfl Tryz.underlying24 rfl (by kernel_rfl) trivial rfl rfl rfl rfl rfl ?_
 refine ay rfl rfl rfl rfl rfl (fun u X=>enters Tryz.func61 (by kernel_rfl) rfl u X) ?_
 refine Calls.mono (Ae _ _ _ _ (Ri.below (⟨A,c,rfl,hu⟩:Ri w _ b xs) hE1) false hr) ?_
 rintro e w2 ⟨rfl,hE2⟩
 have jM:=zYz hE2
 refine ⟨_,rfl,trivial,?_⟩
 refine qb (v:=.bool true) trivial rfl rfl rfl rfl rfl (fun X=>rfl) ?_
 refine aj ?_
 repeat refine af ?_
 refine fP rfl ?_
 repeat refine af ?_
 refine ah (by kernel_rfl) ?_
 refine aG trivial rfl ?_
 refine aj ?_
 repeat refine af ?_
 exact aZ rfl rfl  (⟨rfl,(yW hE1 hE2)⟩)
theorem pM (w:World) (A:Option Addr) (c:Nat) (z ee:Int) (u:Un w (.slice A (limbs z.natAbs).length c) z.natAbs) (lz:Sz z 65536) :
  Calls Tryz.prog 14 #[.agg #[.bool (decide (z<0)),.slice A (limbs z.natAbs).length c,.int .i64 ee]] w fun e w'=>e = .returned (.bool (decide ((z=0∧ee=0∨z%2=1) ∧ -100000≤ee∧ee≤100000)))∧Pl.Ex w w':=by
 refine aN (n:=32) (vs:=[.agg #[.bool (decide (z<0)),.slice A (limbs (Int.natAbs z)).length c,.int .i64 ee]]) Tryz.func14 rfl (by kernel_rfl) (by simp) ?_
 repeat refine af ?_
 refine ah (by kernel_rfl) ?_
 refine bF (cs:=[.bool (decide (z<0)),.slice A (limbs (Int.natAbs z)).length c,.int .i64 ee]) rfl rfl rfl rfl rfl rfl (fun Y hY=>trivial) ?_
 intro N1 w1 hE1 bT ak
 have dP:=Pl.Cb.lt ak
 have jC:=zYz hE1
 refine aG trivial rfl ?_
 refine aj ?_
 repeat refine af ?_
 refine ah (by kernel_rfl) ?_
 refine aL (.pointer (some ⟨N1,0,none⟩)) trivial rfl rfl rfl rfl (fun X=>by kernel_rfl) ?_
 refine bg (part:=[.bool (decide (z<0)),.slice A (limbs (Int.natAbs z)).length c]) ak rfl Tryz.underlying24 rfl (by kernel_rfl) trivial rfl rfl rfl rfl rfl ?_
 refine ay rfl rfl rfl rfl rfl (fun u X=>enters Tryz.func61 (by kernel_rfl) rfl u X) ?_
 refine Calls.mono (Ae _ _ _ _ (Zn.ri (Zn.of (Un.below u hE1))) true (BX (Sz.le lz (by omega)))) ?_
 rintro e w2 ⟨rfl,hE2⟩
 have jM:=zYz hE2
 refine ⟨_,rfl,trivial,?_⟩
 refine qb (v:=.bool false) trivial rfl rfl rfl rfl rfl (fun X=>rfl) ?_
 refine aj ?_
 repeat refine af ?_
 refine dH rfl ?_
 repeat refine af ?_
 refine fG ?_
 repeat refine af ?_
 refine ah (by kernel_rfl) ?_
 refine aL (.pointer (some ⟨N1,0,none⟩)) trivial rfl rfl rfl rfl (fun X=>by kernel_rfl) ?_
 refine aL (.pointer (some ⟨N1,1,none⟩)) trivial rfl rfl rfl rfl (fun X=>by kernel_rfl) ?_
 refine bD (v:=.slice A (limbs (Int.natAbs z)).length c) Tryz.underlying22 rfl (Pl.Cb.at (j:=1) (zZz ak hE2) rfl) trivial rfl rfl rfl rfl rfl ?_
 refine su Tryz.underlying22 trivial rfl rfl rfl rfl rfl ?_
 by_cases c2:((limbs (Int.natAbs z)).length)=0
 · refine bP (v:=.bool true) (fun X=>gW (e_t (by omega)) X) trivial rfl rfl rfl rfl rfl rfl ?_
   refine aj ?_
   repeat refine af ?_
   refine fP rfl ?_
   repeat refine af ?_
   refine ah (by kernel_rfl) ?_
   refine aL (.pointer (some ⟨N1,2,none⟩)) trivial rfl rfl rfl rfl (fun X=>by kernel_rfl) ?_
   refine bD (v:=.int .i64 ee) Tryz.underlying3 rfl (Pl.Cb.at (j:=2) (zZz ak hE2) rfl) trivial rfl rfl rfl rfl rfl ?_
   by_cases c3:ee=0
   · refine bP (v:=.bool true) (fun X=>ed c3 X) trivial rfl rfl rfl rfl rfl rfl ?_
     refine aG trivial rfl ?_
     refine aj ?_
     repeat refine af ?_
     exact aZ rfl rfl  (⟨by rw [decide_eq_true (show (z=0∧ee=0∨z%2=1) ∧ -100000≤ee∧ee≤100000 by have hl1:=@kC z.natAbs;omega)],(yW hE1 hE2)⟩)
   · refine bP (v:=.bool false) (fun X=>jB c3 X) trivial rfl rfl rfl rfl rfl rfl ?_
     refine aG trivial rfl ?_
     refine aj ?_
     repeat refine af ?_
     exact aZ rfl rfl  (⟨by rw [decide_eq_false (show ¬ ((z=0∧ee=0∨z%2=1) ∧ -100000≤ee∧ee≤100000) by have hl1:=@kC z.natAbs;omega)],(yW hE1 hE2)⟩)
 · refine bP (v:=.bool false) (fun X=>gW (e_f (by omega)) X) trivial rfl rfl rfl rfl rfl rfl ?_
   refine aj ?_
   repeat refine af ?_
   refine dH rfl ?_
   repeat refine af ?_
   refine fG ?_
   repeat refine af ?_
   refine ah (by kernel_rfl) ?_
   refine aL (.pointer (some ⟨N1,0,none⟩)) trivial rfl rfl rfl rfl (fun X=>by kernel_rfl) ?_
   refine aL (.pointer (some ⟨N1,1,none⟩)) trivial rfl rfl rfl rfl (fun X=>by kernel_rfl) ?_
   refine bD (v:=.slice A (limbs (Int.natAbs z)).length c) Tryz.underlying22 rfl (Pl.Cb.at (j:=1) (zZz ak hE2) rfl) trivial rfl rfl rfl rfl rfl ?_
   have hl0:=@kC z.natAbs
   have hq0:z.natAbs≠0:=by omega
   obtain ⟨ad,hA1,hcell⟩:=Hy u (i:=0) (by omega)
   subst hA1
   refine Hz (s:=1) (j:=0) Tryz.underlying22 (by kernel_rfl) rfl (by omega) trivial rfl rfl rfl rfl rfl rfl ?_
   refine bD (v:=.int .u32 (((z.natAbs%4294967296):Nat):Int)) Tryz.underlying67 rfl (xu (Un.below u (yW hE1 hE2)) hq0) trivial rfl rfl rfl rfl rfl ?_
   refine bP (v:=.int .u32 ((((z.natAbs%4294967296)%2):Nat):Int)) (fun X=>vw (a:=(z.natAbs%4294967296)) (b:=2) (by omega) (by omega) X) trivial rfl rfl rfl rfl rfl rfl ?_
   by_cases c3:((z.natAbs%4294967296)%2)=1
   · refine bP (v:=.bool true) (fun X=>gW (e_t (by omega)) X) trivial rfl rfl rfl rfl rfl rfl ?_
     refine aG trivial rfl ?_
     refine aL (.pointer (some ⟨N1,2,none⟩)) trivial rfl rfl rfl rfl (fun X=>by kernel_rfl) ?_
     refine bD (v:=.int .i64 ee) Tryz.underlying3 rfl (Pl.Cb.at (j:=2) (zZz ak hE2) rfl) trivial rfl rfl rfl rfl rfl ?_
     by_cases c4:ee≥(-100000)
     · refine bP (v:=.bool true) (fun X=>iP c4 X) trivial rfl rfl rfl rfl rfl rfl ?_
       refine aG trivial rfl ?_
       refine aL (.pointer (some ⟨N1,2,none⟩)) trivial rfl rfl rfl rfl (fun X=>by kernel_rfl) ?_
       refine bD (v:=.int .i64 ee) Tryz.underlying3 rfl (Pl.Cb.at (j:=2) (zZz ak hE2) rfl) trivial rfl rfl rfl rfl rfl ?_
       by_cases c5:ee≤100000
       · refine bP (v:=.bool true) (fun X=>xe c5 X) trivial rfl rfl rfl rfl rfl rfl ?_
         refine aG trivial rfl ?_
         refine aj ?_
         repeat refine af ?_
         exact aZ rfl rfl  (⟨by rw [decide_eq_true (show (z=0∧ee=0∨z%2=1) ∧ -100000≤ee∧ee≤100000 by have hl1:=@kC z.natAbs;omega)],(yW hE1 hE2)⟩)
       · refine bP (v:=.bool false) (fun X=>BP c5 X) trivial rfl rfl rfl rfl rfl rfl ?_
         refine aG trivial rfl ?_
         refine aj ?_
         repeat refine af ?_
         exact aZ rfl rfl  (⟨by rw [decide_eq_false (show ¬ ((z=0∧ee=0∨z%2=1) ∧ -100000≤ee∧ee≤100000) by have hl1:=@kC z.natAbs;omega)],(yW hE1 hE2)⟩)
     · refine bP (v:=.bool false) (fun X=>jm c4 X) trivial rfl rfl rfl rfl rfl rfl ?_
       refine aG trivial rfl ?_
       refine aj ?_
       repeat refine af ?_
       exact aZ rfl rfl  (⟨by rw [decide_eq_false (show ¬ ((z=0∧ee=0∨z%2=1) ∧ -100000≤ee∧ee≤100000) by have hl1:=@kC z.natAbs;omega)],(yW hE1 hE2)⟩)
   · refine bP (v:=.bool false) (fun X=>gW (e_f (by omega)) X) trivial rfl rfl rfl rfl rfl rfl ?_
     refine aG trivial rfl ?_
     refine aj ?_
     repeat refine af ?_
     exact aZ rfl rfl  (⟨by rw [decide_eq_false (show ¬ ((z=0∧ee=0∨z%2=1) ∧ -100000≤ee∧ee≤100000) by have hl1:=@kC z.natAbs;omega)],(yW hE1 hE2)⟩)
theorem lu (w:World) (b:Bool) (A:Option Addr) (c:Nat) (xs:List Nat) (ee:Int) (hu:U w (.slice A xs.length c) xs) (k:Nat) (hk:k≤100) :
  Calls Tryz.prog 38 #[.agg #[.bool b,.slice A xs.length c,.int .i64 ee],.int .i64 ((k:Nat):Int)] w fun e w'=>∃ u,e = .returned u∧Dn w' u (sI b xs ee k) k (-200) (200+32*(k:Int))∧Pl.Ex w w':=by
 have hn9:=oo ee
 refine aN (n:=15) (vs:=[.agg #[.bool b,.slice A xs.length c,.int .i64 ee],.int .i64 ((k:Nat):Int)]) Tryz.func38 rfl (by kernel_rfl) (by simp) ?_
 repeat refine af ?_
 refine ah (by kernel_rfl) ?_
 refine bF (cs:=[.bool b,.slice A xs.length c,.int .i64 ee]) rfl rfl rfl rfl rfl rfl (fun Y hY=>trivial) ?_
 intro N1 w1 hE1 bT ak
 have dP:=Pl.Cb.lt ak
 have jC:=zYz hE1
 refine bK (z:=.agg #[.bool false,.slice none 0 0,.int .i64 0]) (by kernel_rfl) rfl rfl rfl rfl (fun Y hY=>trivial) ?_
 intro N2 w2 hE2 dU aA
 have iq:=Pl.Cb.lt aA
 have jM:=zYz hE2
 replace aA:Pl.Cb w2 N2 26 [.bool false,.slice none 0 0,.int .i64 0]:=aA
 refine aj ?_
 repeat refine af ?_
 refine fU (S:=fun X=>Pl.Ex w1 X) [(true,0,0),(true,1,1),(true,2,3),(true,4,7),(true,5,23),(true,6,55),(true,7,119),(true,8,247),(false,3,503),(false,9,511),(false,10,1023)] fo aR (by kernel_rfl) (yW hE2 (Pl.Ex.drew _)) ?_
 have aJ:=Pl.Ex.drew w2
 generalize w2.drew=w3 at *
 have jX:=zYz aJ
 intro dL
 refine aL (.pointer (some ⟨N1,0,none⟩)) dL rfl rfl rfl rfl (fun X=>by kernel_rfl) ?_
 refine bn (part:=[.bool b,.slice A xs.length c]) (fun X hX=>zZz ak hX) rfl Tryz.underlying24 rfl (by kernel_rfl) dL rfl rfl rfl rfl rfl ?_
 refine aG dL rfl ?_
 refine aL (.pointer (some ⟨N1,2,none⟩)) dL rfl rfl rfl rfl (fun X=>by kernel_rfl) ?_
 refine iB (v:=.int .i64 ee) Tryz.underlying3 rfl (fun X hX=>Pl.Cb.at (j:=2) (zZz ak hX) rfl) dL rfl rfl rfl rfl rfl ?_
 refine bP (v:=.int .i64 (((gN ee):Nat):Int)) (fun X=>sH ee _ _ _ X) dL rfl rfl rfl rfl rfl rfl ?_
 refine bP (v:=.int .i64 ((((gN ee)%401):Nat):Int)) (fun X=>j5 (a:=(gN ee)) (b:=401) (by omega) (by omega) X) dL rfl rfl rfl rfl rfl rfl ?_
 refine bP (v:=.int .i64 (((gN ee%401:Nat):Int)-200)) (fun X=>jH (by omega) X) dL rfl rfl rfl rfl rfl rfl ?_
 refine ay rfl rfl rfl rfl rfl (fun u X=>enters Tryz.func16 (by kernel_rfl) rfl u X) ?_
 refine Calls.mono (l6 _ _ _ _ (Ri.below (⟨A,c,rfl,hu⟩:Ri w _ b xs) (yW hE1 (yW hE2 aJ))) k _ rfl (by omega) _ rfl) ?_
 rintro e w4 ⟨v3,rfl,hv3,aP⟩
 obtain ⟨A4,c5,rfl,u6⟩:=hv3
 have kY:=zYz aP
 have fJ:=yW dL aP
 refine ⟨_,rfl,fJ,?_⟩
 refine ay rfl rfl rfl rfl rfl (fun u X=>enters Tryz.func19 (by kernel_rfl) rfl u X) ?_
 refine Calls.mono (jh _ _ (sg b (dM xs k)) (((gN ee%401:Nat):Int)-200) (Zn.of u6) k (nA hu k) (by omega) (by omega) (-200) (200+32*(k:Int)) (by omega) (by omega) (by omega) (by omega)) ?_
 rintro e w5 ⟨v7,rfl,hv7,aW⟩
 obtain ⟨m8,e9,A10,c11,rfl,u12,JN⟩:=hv7
 have ab6:=JN.lo
 have ab7:=JN.hi
 have mI:=zYz aW
 have hS5:=yW fJ aW
 refine ⟨_,rfl,hS5,?_⟩
 refine bz (new:=[.bool (decide (m8<0)),.slice A10 (limbs (Int.natAbs m8)).length c11,.int .i64 e9]) (zZz aA (yW aJ (yW aP aW))) (by kernel_rfl) rfl (by simp [Value.oneCell']) rfl rfl rfl rfl rfl rfl (fun Y hY=>Pl.Ex.xs hS5 hY (by omega)) ?_
 intro w6 jY bf
 have bO:=Pl.Ex.xs (yW hE2 (yW aJ (yW aP aW))) jY (by omega)
 have rC:=Xs.size jY
 have kD:=Pl.Ex.xs hS5 jY (by omega)
 refine aj ?_
 have k14:=Un.xs u12 jY (zZz aA (yW aJ (yW aP aW))) (by simp)
 repeat refine af ?_
 exact aV rfl rfl bf Tryz.underlying26 rfl (by kernel_rfl) (⟨_,rfl,(Dn.mk k14 JN.can JN.val JN.sz JN.lo JN.hi),(yW hE1 bO)⟩)
end Go.Proofs.YtdpmbgomcjnohaaGreatDoor
namespace Go.Proofs.YtdpmbgomcjnohaaGreatDoor
open Pl
open Go.RowKit 
set_option linter.all false
set_option maxRecDepth 100000
set_option maxHeartbeats 8000000
theorem Eg (w:World) (bx0:Bool) (Ax:Option Addr) (cx:Nat) (iQ:List Nat) (pJ:Int) (Gu:U w (.slice Ax iQ.length cx) iQ) (H8:Bool) (Ay:Option Addr) (cy:Nat) (Dz:List Nat) (H9:Int) (huy:U w (.slice Ay Dz.length cy) Dz) :
  Calls Tryz.prog 15 #[.agg #[.bool bx0,.slice Ax iQ.length cx,.int .i64 pJ],.agg #[.bool H8,.slice Ay Dz.length cy,.int .i64 H9]] w fun e w'=>∃ u v,e = .returned (.tuple #[u,v])∧Dn w' u (sI bx0 iQ pJ 10) 10 (-200) 520∧Dn w' v (sI H8 Dz H9 10) 10 (-200) 520∧Pl.Ex w w':=by
 obtain ⟨x,TP⟩:∃ z,sI bx0 iQ pJ 10=z:=⟨_,rfl⟩
 obtain ⟨y,Zv⟩:∃ z,sI H8 Dz H9 10=z:=⟨_,rfl⟩
 refine aN (n:=10) (vs:=[.agg #[.bool bx0,.slice Ax iQ.length cx,.int .i64 pJ],.agg #[.bool H8,.slice Ay Dz.length cy,.int .i64 H9]]) Tryz.func15 rfl (by kernel_rfl) (by simp) ?_
 repeat refine af ?_
 refine ah (by kernel_rfl) ?_
 refine bF (cs:=[.bool bx0,.slice Ax iQ.length cx,.int .i64 pJ]) rfl rfl rfl rfl rfl rfl (fun Y hY=>trivial) ?_
 intro N1 w1 hE1 bT ak
 have dP:=Pl.Cb.lt ak
 have jC:=zYz hE1
 refine bF (cs:=[.bool H8,.slice Ay Dz.length cy,.int .i64 H9]) rfl rfl rfl rfl rfl rfl (fun Y hY=>trivial) ?_
 intro N2 w2 hE2 dU aA
 have iq:=Pl.Cb.lt aA
 have jM:=zYz hE2
 refine bK (z:=.agg #[.bool false,.slice none 0 0,.int .i64 0]) (by kernel_rfl) rfl rfl rfl rfl (fun Y hY=>trivial) ?_
 intro N3 w3 aJ pY aY
 have yg:=Pl.Cb.lt aY
 have jX:=zYz aJ
 replace aY:Pl.Cb w3 N3 26 [.bool false,.slice none 0 0,.int .i64 0]:=aY
 refine bK (z:=.agg #[.bool false,.slice none 0 0,.int .i64 0]) (by kernel_rfl) rfl rfl rfl rfl (fun Y hY=>trivial) ?_
 intro N4 w4 aP wQ bV
 have ES:=Pl.Cb.lt bV
 have kY:=zYz aP
 replace bV:Pl.Cb w4 N4 26 [.bool false,.slice none 0 0,.int .i64 0]:=bV
 refine aj ?_
 repeat refine af ?_
 refine fU (S:=fun X=>Pl.Ex w2 X) [(true,0,0),(true,2,1),(false,1,5),(false,3,7),(false,4,15),(false,5,31)] fo aR (by kernel_rfl) (yW (yW aJ aP) (Pl.Ex.drew _)) ?_
 have aW:=Pl.Ex.drew w4
 generalize w4.drew=w5 at *
 have mI:=zYz aW
 intro hS5
 refine bn (part:=[.bool bx0,.slice Ax iQ.length cx,.int .i64 pJ]) (fun X hX=>zZz (zZz ak hE2) hX) rfl Tryz.underlying26 rfl (by kernel_rfl) hS5 rfl rfl rfl rfl rfl ?_
 refine bn (part:=[.bool H8,.slice Ay Dz.length cy,.int .i64 H9]) (fun X hX=>zZz aA hX) rfl Tryz.underlying26 rfl (by kernel_rfl) hS5 rfl rfl rfl rfl rfl ?_
 refine ay rfl rfl rfl rfl rfl (fun u X=>enters Tryz.func38 (by kernel_rfl) rfl u X) ?_
 refine Calls.mono (lu _ _ _ _ _ _ (U.below Gu (yW hE1 (yW hE2 (yW aJ (yW aP aW))))) 10 (by decide)) ?_
 rintro e w6 ⟨v5,rfl,hv5,bO⟩
 rw [TP] at hv5
 replace hv5:=Dn.le hv5 (Nat.le_refl 10) (show (-200:Int) ≤ -200 by decide) (show _≤(520:Int) by decide)
 obtain ⟨m6,e7,A8,c9,rfl,zK,W9⟩:=hv5
 have ahv:=W9.lo
 have ahw:=W9.hi
 have rC:=zYz bO
 have kD:=yW hS5 bO
 refine ⟨_,rfl,kD,?_⟩
 refine ay rfl rfl rfl rfl rfl (fun u X=>enters Tryz.func38 (by kernel_rfl) rfl u X) ?_
 refine Calls.mono (lu _ _ _ _ _ _ (U.below huy (yW hE1 (yW hE2 (yW aJ (yW aP (yW aW bO)))))) 10 (by decide)) ?_
 rintro e w7 ⟨v12,rfl,NB,cB⟩
 rw [Zv] at NB
 replace NB:=Dn.le NB (Nat.le_refl 10) (show (-200:Int) ≤ -200 by decide) (show _≤(520:Int) by decide)
 obtain ⟨m13,e14,A15,c16,rfl,G5,Xa⟩:=NB
 have ahx:=Xa.lo
 have ahy:=Xa.hi
 have wm:=zYz cB
 have lJ:=yW kD cB
 refine ⟨_,rfl,lJ,?_⟩
 refine bz (new:=[.bool (decide (m6<0)),.slice A8 (limbs (Int.natAbs m6)).length c9,.int .i64 e7]) (zZz aY (yW aP (yW aW (yW bO cB)))) (by kernel_rfl) rfl (by simp [Value.oneCell']) rfl rfl rfl rfl rfl rfl (fun Y hY=>Pl.Ex.xs lJ hY (by omega)) ?_
 intro w8 iL fE
 have iX:=Pl.Ex.xs (yW aJ (yW aP (yW aW (yW bO cB)))) iL (by omega)
 have EW:=Xs.size iL
 have Nr:=Pl.Ex.xs lJ iL (by omega)
 have fO:=Pl.Cb.xs (zZz bV (yW aW (yW bO cB))) iL (by simp;omega)
 refine bz (new:=[.bool (decide (m13<0)),.slice A15 (limbs (Int.natAbs m13)).length c16,.int .i64 e14]) fO (by kernel_rfl) rfl (by simp [Value.oneCell']) rfl rfl rfl rfl rfl rfl (fun Y hY=>Pl.Ex.xs Nr hY (by omega)) ?_
 intro w9 Ta yh
 have rE:=Pl.Ex.xs iX Ta (by omega)
 have sz9:=Xs.size Ta
 have hS9:=Pl.Ex.xs Nr Ta (by omega)
 have JW:=Pl.Cb.xs fE Ta (by simp;omega)
 refine aj ?_
 have k19:=Un.xs (Un.below zK cB) iL (zZz aY (yW aP (yW aW (yW bO cB)))) (by simp)
 have k20:=Un.xs k19 Ta fO (by simp)
 have k21:=Un.xs G5 iL (zZz aY (yW aP (yW aW (yW bO cB)))) (by simp)
 have k22:=Un.xs k21 Ta fO (by simp)
 repeat refine af ?_
 exact JS rfl rfl rfl JW Tryz.underlying26 rfl (by kernel_rfl) yh Tryz.underlying26 rfl (by kernel_rfl) (⟨_,_,rfl,by rw [TP];exact (Dn.mk k20 W9.can W9.val W9.sz W9.lo W9.hi),by rw [Zv];exact (Dn.mk k22 Xa.can Xa.val Xa.sz Xa.lo Xa.hi),(yW hE1 (yW hE2 rE))⟩)
end Go.Proofs.YtdpmbgomcjnohaaGreatDoor
namespace Go.Proofs.YtdpmbgomcjnohaaGreatDoor
open Pl
open Go.RowKit 
set_option linter.all false
set_option maxRecDepth 100000
set_option maxHeartbeats 8000000
theorem Mk {P:Program} {T:TypeId} {x y:Operand} (hu:P.underlying T=some .bool) (b:Bool) (X:World):Bn P .neq T x y (.bool b) (.bool b) X = .ok (.bool false) X:=by
 simp [Bn,eqGuard,binOp,run_equal_bool _ _ _ _ hu]
theorem JX {L:List Oper} {S:World→Prop} {K:List (Nat × Value)→World→Prop} {i m d:Nat} {o:Oper} {x y:Operand} {r:List (Bool × Nat × Nat)} {l:List (Nat × Value)} {w:World} {N:Nat} {u:Value} {ys:List Nat}
  (hN:Pl.Cb w N 67 []) (hU:U w u ys) (hl:ys.length≤1000000)
  (ho:Pl.nth L i=some o) (hop:o.op = .call { callee:=.builtin .append,args:=#[x,y],argTypes:=#[22,22] }) (hty:o.type = 22) (hd:o.dst=some d) (hg:gd L l o.guard=some true) (hx:dA l x=some (.slice (some ⟨N,0,none⟩) 0 0)) (hy:dA l y=some u) (hS:∀ Y,Xs [N] w Y→S Y)
  (h:∀ A c w',Xs [N] w w'→U w' (.slice A ys.length c) ys→gM Tryz.prog L S K r ((d,.slice A ys.length c)::l) w'):gM Tryz.prog L S K ((false,i,m)::r) l w:=by
 have hown:Own w N (.slice (some ⟨N,0,none⟩) 0 0) []:=⟨by simp [qy],.inr ⟨N,0,#[],rfl,Nat.le_refl _,hN,Nat.le_refl _,Nat.zero_le _,rfl,by simp [qy]⟩⟩
 have hlt:∀ x∈ys,x<4294967296:=by obtain ⟨_,_,_,_,h1,_⟩:=id hU;exact h1
 obtain ⟨v',w',hrun,ho',hgr⟩:=ng w N _ [] hown u ys hU (by simp;omega) (Nat.le_of_lt hN.lt)
 have hU':=ho'.xX (by simpa using hlt) (by simp;omega)
 rw [List.nil_append] at hU'
 obtain ⟨A',c',rfl,_⟩:=id hU'
 refine lM ho hd hg (fun ρ hρ=>?_) (hS _ (Xs.H7 hgr)) (h _ _ _ (Xs.H7 hgr) hU')
 obtain ⟨d',op',t',ps',af',gu'⟩:=o
 cases hop
 cases hty
 exact Ia (Builtin.append_ _ _ (#[x,y].map ρ)) (by rw [show #[x,y].map ρ=#[.slice (some ⟨N,0,none⟩) 0 0,u] from by simp [hρ.dA hx,hρ.dA hy]];exact hrun)
theorem Cf (w:World) (hg:Gt w) (bx0:Bool) (Ax:Option Addr) (cx:Nat) (iQ:List Nat) (pJ:Int) (Gu:U w (.slice Ax iQ.length cx) iQ) (H8:Bool) (Ay:Option Addr) (cy:Nat) (Dz:List Nat) (H9:Int) (huy:U w (.slice Ay Dz.length cy) Dz) (e9:Int) (be9 : -32768≤e9∧e9≤32767) :
  Calls Tryz.prog 3 #[.agg #[.bool bx0,.slice Ax iQ.length cx,.int .i64 pJ],.agg #[.bool H8,.slice Ay Dz.length cy,.int .i64 H9],.int .i16 e9] w fun e w'=>e = .returned (.bool true)∧Pl.Ex w w':=by
 obtain ⟨x,TP⟩:∃ z,sI bx0 iQ pJ 10=z:=⟨_,rfl⟩
 obtain ⟨y,Zv⟩:∃ z,sI H8 Dz H9 10=z:=⟨_,rfl⟩
 obtain ⟨m,h9m⟩:∃ z,sg bx0 (dM iQ 10)=z:=⟨_,rfl⟩
 have lm:Sz m 10:=by rw [← h9m];exact nA Gu 10
 have hcx:iQ.length≤cx:=by obtain ⟨_,_,h1,h2,_⟩:=id Gu;cases h1;exact h2.1
 refine aN (n:=123) (vs:=[.agg #[.bool bx0,.slice Ax iQ.length cx,.int .i64 pJ],.agg #[.bool H8,.slice Ay Dz.length cy,.int .i64 H9],.int .i16 e9]) Tryz.func3 rfl (by kernel_rfl) (by simp) ?_
 repeat refine af ?_
 refine ah (by kernel_rfl) ?_
 refine bF (cs:=[.bool bx0,.slice Ax iQ.length cx,.int .i64 pJ]) rfl rfl rfl rfl rfl rfl (fun Y hY=>trivial) ?_
 intro N1 w1 hE1 bT ak
 have dP:=Pl.Cb.lt ak
 have jC:=zYz hE1
 refine bF (cs:=[.bool H8,.slice Ay Dz.length cy,.int .i64 H9]) rfl rfl rfl rfl rfl rfl (fun Y hY=>trivial) ?_
 intro N2 w2 hE2 dU aA
 have iq:=Pl.Cb.lt aA
 have jM:=zYz hE2
 refine aG trivial rfl ?_
 refine aj ?_
 repeat refine af ?_
 refine ah (by kernel_rfl) ?_
 refine ay rfl rfl rfl rfl rfl (fun u X=>enters Tryz.func12 (by kernel_rfl) rfl u X) ?_
 refine Calls.mono (qM _ (hg.ext (yW hE1 hE2))) ?_
 rintro e w3 ⟨rfl,aJ⟩
 have jX:=zYz aJ
 refine ⟨_,rfl,trivial,?_⟩
 refine aG trivial rfl ?_
 refine aj ?_
 repeat refine af ?_
 refine Fa (fun l' w'=>∃ (b9:Bool) (r9:List Nat) (A9:Option Addr) (c9:Nat) (N9:Nat),Pl.Ex w3 w'∧(U w' (.slice A9 r9.length c9) r9)∧(Pl.Cb w' N9 26 [.bool b9,.slice A9 r9.length c9,.int .i64 pJ])∧(w3.heap.size≤N9)∧l'=[(0,.agg #[.bool bx0,.slice Ax iQ.length cx,.int .i64 pJ]),(1,.agg #[.bool H8,.slice Ay Dz.length cy,.int .i64 H9]),(2,.int .i16 e9),(3,.pointer (some ⟨N1,0,none⟩)),(4,.pointer (some ⟨N2,0,none⟩)),(6,.bool false),(7,.bool true),(8,.pointer (some ⟨N9,0,none⟩))]) ?_ fun zq=>?_
 · rintro _ w4 ⟨b9,r9,A9,c9,N9,aP,u9,k9,h9,rfl⟩
   have kY:=zYz aP
   have aci:=Pl.Cb.lt k9
   repeat refine af ?_
   by_cases hr:(eO r9&&!(b9&&decide (r9.length=0)))=true
   · obtain ⟨z9,rfl,rfl,lz9⟩:=PV (by obtain ⟨_,_,_,_,h1,_⟩:=id u9;exact h1) hr
     repeat refine af ?_
     refine fU (S:=fun X=>Pl.Ex w4 X) [(true,0,0),(true,2,1),(false,1,5),(false,3,7),(true,4,15)] fo aR (by kernel_rfl) (yW (Pl.Ex.refl _) (Pl.Ex.drew _)) ?_
     have aW:=Pl.Ex.drew w4
     generalize w4.drew=w5 at *
     have mI:=zYz aW
     intro hS5
     refine bn (part:=[.bool (decide (z9<0)),.slice A9 (limbs (Int.natAbs z9)).length c9,.int .i64 pJ]) (fun X hX=>zZz k9 hX) rfl Tryz.underlying26 rfl (by kernel_rfl) hS5 rfl rfl rfl rfl rfl ?_
     refine bn (part:=[.bool (decide (z9<0)),.slice A9 (limbs (Int.natAbs z9)).length c9,.int .i64 pJ]) (fun X hX=>zZz k9 hX) rfl Tryz.underlying26 rfl (by kernel_rfl) hS5 rfl rfl rfl rfl rfl ?_
     refine ay rfl rfl rfl rfl rfl (fun u X=>enters Tryz.func13 (by kernel_rfl) rfl u X) ?_
     refine Calls.mono (xy _ _ _ z9 pJ (Un.below u9 aW) (Sz.le lz9 (by decide))) ?_
     rintro e w6 ⟨rfl,bO⟩
     have rC:=zYz bO
     have kD:=yW hS5 bO
     refine ⟨_,rfl,kD,?_⟩
     refine ay rfl rfl rfl rfl rfl (fun u X=>enters Tryz.func14 (by kernel_rfl) rfl u X) ?_
     refine Calls.mono (pM _ _ _ z9 pJ (Un.below u9 (yW aW bO)) (Sz.le lz9 (by decide))) ?_
     rintro e w7 ⟨rfl,cB⟩
     have wm:=zYz cB
     have lJ:=yW kD cB
     refine ⟨_,rfl,lJ,?_⟩
     refine bP (v:=.bool false) (fun X=>Mk Tryz.underlying4 _ X) lJ rfl rfl rfl rfl rfl rfl ?_
     refine aj ?_
     repeat refine af ?_
     refine dH rfl ?_
     repeat refine af ?_
     refine fG ?_
     repeat refine af ?_
     refine ah (by kernel_rfl) ?_
     refine bg (part:=[.bool bx0,.slice Ax iQ.length cx,.int .i64 pJ]) (zZz ak (yW hE2 (yW aJ (yW aP (yW aW (yW bO cB)))))) rfl Tryz.underlying26 rfl (by kernel_rfl) trivial rfl rfl rfl rfl rfl ?_
     refine bg (part:=[.bool H8,.slice Ay Dz.length cy,.int .i64 H9]) (zZz aA (yW aJ (yW aP (yW aW (yW bO cB))))) rfl Tryz.underlying26 rfl (by kernel_rfl) trivial rfl rfl rfl rfl rfl ?_
     refine ay rfl rfl rfl rfl rfl (fun u X=>enters Tryz.func15 (by kernel_rfl) rfl u X) ?_
     refine Calls.mono (Eg _ _ _ _ _ _ (U.below Gu (yW hE1 (yW hE2 (yW aJ (yW aP (yW aW (yW bO cB))))))) _ _ _ _ _ (U.below huy (yW hE1 (yW hE2 (yW aJ (yW aP (yW aW (yW bO cB)))))))) ?_
     rintro e w8 ⟨v4,v11,rfl,hv4,jN,iX⟩
     rw [TP] at hv4
     rw [Zv] at jN
     obtain ⟨m5,e6,A7,c8,rfl,u9,dw⟩:=hv4
     have Zt:=dw.lo
     have Zu:=dw.hi
     obtain ⟨m12,e13,rD,c15,rfl,u16,fT⟩:=jN
     have Zd:=fT.lo
     have Ze:=fT.hi
     have EW:=zYz iX
     refine ⟨_,rfl,trivial,?_⟩
     refine aG trivial rfl ?_
     refine bK (z:=.agg #[.bool false,.slice none 0 0,.int .i64 0]) (by kernel_rfl) rfl rfl rfl rfl (fun Y hY=>trivial) ?_
     intro N18 w9 rE Xb nD
     have Zw:=Pl.Cb.lt nD
     have sz9:=zYz rE
     replace nD:Pl.Cb w9 N18 26 [.bool false,.slice none 0 0,.int .i64 0]:=nD
     refine bK (z:=.agg #[.bool false,.slice none 0 0,.int .i64 0]) (by kernel_rfl) rfl rfl rfl rfl (fun Y hY=>trivial) ?_
     intro N19 Ic fu Xc nE
     have Zx:=Pl.Cb.lt nE
     have TW:=zYz fu
     replace nE:Pl.Cb Ic N19 26 [.bool false,.slice none 0 0,.int .i64 0]:=nE
     refine bz (new:=[.bool (decide (m5<0)),.slice A7 (limbs (Int.natAbs m5)).length c8,.int .i64 e6]) (zZz nD fu) (by kernel_rfl) rfl (by simp [Value.oneCell']) rfl rfl rfl rfl rfl rfl (fun Y hY=>trivial) ?_
     intro Oz JY Fe
     have dX:=Pl.Ex.xs (yW rE fu) JY (by omega)
     have NC:=Xs.size JY
     have Ff:=Pl.Cb.xs nE JY (by simp;omega)
     refine bz (new:=[.bool (decide (m12<0)),.slice rD (limbs (Int.natAbs m12)).length c15,.int .i64 e13]) Ff (by kernel_rfl) rfl (by simp [Value.oneCell']) rfl rfl rfl rfl rfl rfl (fun Y hY=>trivial) ?_
     intro OA oJ gy
     have bG:=Pl.Ex.xs dX oJ (by omega)
     have DC:=Xs.size oJ
     have dz:=Pl.Cb.xs Fe oJ (by simp;omega)
     refine aj ?_
     repeat refine af ?_
     refine ah (by kernel_rfl) ?_
     refine aL (.pointer (some ⟨N1,0,none⟩)) trivial rfl rfl rfl rfl (fun X=>by kernel_rfl) ?_
     refine bg (part:=[.bool bx0,.slice Ax iQ.length cx]) (zZz ak (yW hE2 (yW aJ (yW aP (yW aW (yW bO (yW cB (yW iX bG)))))))) rfl Tryz.underlying24 rfl (by kernel_rfl) trivial rfl rfl rfl rfl rfl ?_
     refine ay rfl rfl rfl rfl rfl (fun u X=>enters Tryz.func16 (by kernel_rfl) rfl u X) ?_
     refine Calls.mono (l6 _ _ _ _ (Ri.below (⟨_,_,rfl,Gu⟩:Ri w _ bx0 iQ) (yW hE1 (yW hE2 (yW aJ (yW aP (yW aW (yW bO (yW cB (yW iX bG))))))))) 10 _ rfl (by omega) _ rfl) ?_
     rintro e OB ⟨v20,rfl,PX,aT⟩
     rw [h9m] at PX
     obtain ⟨Xd,Xe,rfl,u23⟩:=PX
     have DD:=zYz aT
     refine ⟨_,rfl,trivial,?_⟩
     refine bK (z:=.agg #[.bool false,.slice none 0 0]) (by kernel_rfl) rfl rfl rfl rfl (fun Y hY=>trivial) ?_
     intro N24 Ml gG Xf nG
     have Zy:=Pl.Cb.lt nG
     have DF:=zYz gG
     replace nG:Pl.Cb Ml N24 24 [.bool false,.slice none 0 0]:=nG
     refine bz (new:=[.bool (decide (m<0)),.slice Xd (limbs (Int.natAbs m)).length Xe]) nG (by kernel_rfl) rfl (by simp [Value.oneCell']) rfl rfl rfl rfl rfl rfl (fun Y hY=>trivial) ?_
     intro JZ iD xz
     have bu:=Pl.Ex.xs gG iD (by omega)
     have Fg:=Xs.size iD
     refine aj ?_
     repeat refine af ?_
     refine fU (S:=fun X=>Pl.Ex JZ X) [(true,0,0),(true,1,1),(true,2,3),(true,4,7),(true,5,23),(true,6,55),(false,3,119),(false,7,127),(false,8,255),(true,9,511),(true,10,1023),(true,11,2047),(true,13,4095),(true,14,12287),(false,12,28671),(false,15,32767),(true,16,65535),(true,17,131071),(true,18,262143),(true,19,524287),(true,21,1048575),(false,20,3145727),(false,22,4194303),(true,23,8388607),(true,24,16777215),(true,25,33554431),(true,26,67108863),(true,28,134217727),(false,27,402653183),(false,29,536870911),(false,30,1073741823),(true,31,2147483647),(true,32,4294967295),(true,33,8589934591),(true,34,17179869183),(true,36,34359738367),(true,37,103079215103),(false,35,240518168575),(false,38,274877906943),(false,39,549755813887),(true,40,1099511627775),(true,41,2199023255551),(true,42,4398046511103),(true,43,8796093022207),(true,45,17592186044415),(true,46,52776558133247),(false,44,123145302310911),(false,47,140737488355327),(false,48,281474976710655),(true,49,562949953421311),(true,50,1125899906842623),(true,51,2251799813685247),(true,52,4503599627370495),(true,54,9007199254740991),(true,55,27021597764222975),(false,53,63050394783186943),(false,56,72057594037927935),(false,57,144115188075855871),(true,58,288230376151711743),(true,59,576460752303423487),(true,60,1152921504606846975),(true,61,2305843009213693951),(true,63,4611686018427387903),(true,64,13835058055282163711),(false,62,32281802128991715327),(false,65,36893488147419103231),(false,66,73786976294838206463),(true,67,147573952589676412927),(true,68,295147905179352825855),(true,69,590295810358705651711),(true,71,1180591620717411303423),(false,70,3541774862152233910271),(false,72,4722366482869645213695),(false,73,9444732965739290427391),(true,74,18889465931478580854783),(true,75,37778931862957161709567),(true,76,75557863725914323419135),(true,77,151115727451828646838271),(true,78,302231454903657293676543)] fo aR (by kernel_rfl) (yW (Pl.Ex.refl _) (Pl.Ex.drew _)) ?_
     have dN:=Pl.Ex.drew JZ
     generalize JZ.drew=w16 at *
     have acn:=zYz dN
     intro vG
     refine bn (part:=[.bool (decide (m<0)),.slice Xd (limbs (Int.natAbs m)).length Xe]) (fun X hX=>zZz xz hX) rfl Tryz.underlying24 rfl (by kernel_rfl) vG rfl rfl rfl rfl rfl ?_
     refine aG vG rfl ?_
     refine Ec (c:=e9) Tryz.underlying3 (by kernel_rfl) (Oy (by omega) (by omega)) vG rfl rfl rfl rfl rfl ?_
     refine bn (part:=[.bool (decide (m<0)),.slice Xd (limbs (Int.natAbs m)).length Xe]) (fun X hX=>zZz xz hX) rfl Tryz.underlying24 rfl (by kernel_rfl) vG rfl rfl rfl rfl rfl ?_
     refine aG vG rfl ?_
     refine Ec (c:=e9) Tryz.underlying3 (by kernel_rfl) (Oy (by omega) (by omega)) vG rfl rfl rfl rfl rfl ?_
     refine ay rfl rfl rfl rfl rfl (fun u X=>enters Tryz.func18 (by kernel_rfl) rfl u X) ?_
     refine Calls.mono (dD _ (hg.ext (yW hE1 (yW hE2 (yW aJ (yW aP (yW aW (yW bO (yW cB (yW iX (yW bG (yW aT (yW bu dN)))))))))))) _ m e9 (Zn.of (Un.below u23 (yW bu dN))) 10 lm (by decide) (by omega) (-32768) 33087 (by omega) (by omega) (by decide) (by decide)) ?_
     rintro e w17 ⟨v25,rfl,hv25,dR⟩
     obtain ⟨m26,e27,A28,c29,rfl,u30,J2⟩:=hv25
     have aco:=J2.lo
     have acp:=J2.hi
     have acr:=zYz dR
     have PY:=yW vG dR
     refine ⟨_,rfl,PY,?_⟩
     refine ay rfl rfl rfl rfl rfl (fun u X=>enters Tryz.func19 (by kernel_rfl) rfl u X) ?_
     refine Calls.mono (jh _ _ m e9 (Zn.of (Un.below u23 (yW bu (yW dN dR)))) 10 lm (by omega) (by omega) (-32768) 33087 (by omega) (by omega) (by omega) (by omega)) ?_
     rintro e w18 ⟨v32,rfl,hv32,dS⟩
     obtain ⟨m33,e34,A35,c36,rfl,u37,J3⟩:=hv32
     have acs:=J3.lo
     have acu:=J3.hi
     have acv:=zYz dS
     have PZ:=yW PY dS
     refine ⟨_,rfl,PZ,?_⟩
     refine ay rfl rfl rfl rfl rfl (fun u X=>enters Tryz.func17 (by kernel_rfl) rfl u X) ?_
     refine Calls.mono (aS _ _ _ (Dy.dv m e9) (Dy.dv m e9) _ _ _ _ _ _ (Dn.mk (Un.below u30 dS) J2.can J2.val J2.sz J2.lo J2.hi) (Dn.mk u37 J3.can J3.val J3.sz J3.lo J3.hi) (by decide) (by decide)) ?_
     rintro e w19 ⟨rfl,dV⟩
     rw [decide_eq_true (show (Dy.dv m e9)=(Dy.dv m e9) from rfl)]
     have acw:=zYz dV
     have vH:=yW PZ dV
     refine ⟨_,rfl,vH,?_⟩
     refine aG vH rfl ?_
     refine bn (part:=[.bool (decide (m5<0)),.slice A7 (limbs (Int.natAbs m5)).length c8,.int .i64 e6]) (fun X hX=>zZz (zZz dz (yW aT bu)) hX) rfl Tryz.underlying26 rfl (by kernel_rfl) vH rfl rfl rfl rfl rfl ?_
     refine bn (part:=[.bool (decide (m12<0)),.slice rD (limbs (Int.natAbs m12)).length c15,.int .i64 e13]) (fun X hX=>zZz (zZz gy (yW aT bu)) hX) rfl Tryz.underlying26 rfl (by kernel_rfl) vH rfl rfl rfl rfl rfl ?_
     refine bn (part:=[.bool (decide (m5<0)),.slice A7 (limbs (Int.natAbs m5)).length c8,.int .i64 e6]) (fun X hX=>zZz (zZz dz (yW aT bu)) hX) rfl Tryz.underlying26 rfl (by kernel_rfl) vH rfl rfl rfl rfl rfl ?_
     refine bn (part:=[.bool (decide (m12<0)),.slice rD (limbs (Int.natAbs m12)).length c15,.int .i64 e13]) (fun X hX=>zZz (zZz gy (yW aT bu)) hX) rfl Tryz.underlying26 rfl (by kernel_rfl) vH rfl rfl rfl rfl rfl ?_
     refine ay rfl rfl rfl rfl rfl (fun u X=>enters Tryz.func20 (by kernel_rfl) rfl u X) ?_
     refine Calls.mono (vI _ (hg.ext (yW hE1 (yW hE2 (yW aJ (yW aP (yW aW (yW bO (yW cB (yW iX (yW bG (yW aT (yW bu (yW dN (yW dR (yW dS dV))))))))))))))) _ _ x y 10 23 (-200) 520 (Dn.le (Dn.mk (Un.below u9 (yW bG (yW aT (yW bu (yW dN (yW dR (yW dS dV))))))) dw.can dw.val dw.sz dw.lo dw.hi) (by decide) (by decide) (by decide)) (Dn.le (Dn.mk (Un.below u16 (yW bG (yW aT (yW bu (yW dN (yW dR (yW dS dV))))))) fT.can fT.val fT.sz fT.lo fT.hi) (by decide) (by decide) (by decide)) (by decide) (by decide) (by decide) (by decide) (-201) 1608 (by decide) (by decide) (by decide) (by decide)) ?_
     rintro e w20 ⟨Zz,rfl,J4,hE20⟩
     have acy:=(show -1≤Zz∧Zz≤1 from ⟨J4.1,J4.2.1⟩)
     have acz:=zYz hE20
     have P5:=yW vH hE20
     refine ⟨_,rfl,P5,?_⟩
     refine ay rfl rfl rfl rfl rfl (fun u X=>enters Tryz.func21 (by kernel_rfl) rfl u X) ?_
     refine Calls.mono (zn _ _ _ x y 10 17 (-200) 520 (Dn.le (Dn.mk (Un.below u9 (yW bG (yW aT (yW bu (yW dN (yW dR (yW dS (yW dV hE20)))))))) dw.can dw.val dw.sz dw.lo dw.hi) (by decide) (by decide) (by decide):Dn _ _ _ 10 (-200) 520) (Dn.le (Dn.mk (Un.below u16 (yW bG (yW aT (yW bu (yW dN (yW dR (yW dS (yW dV hE20)))))))) fT.can fT.val fT.sz fT.lo fT.hi) (by decide) (by decide) (by decide):Dn _ _ _ 10 (-200) 520) (by decide) (by decide) (by decide) (by decide)) ?_
     rintro e w21 ⟨ZA,rfl,J5,fH⟩
     have acA:=(show -1≤ZA∧ZA≤1 from ⟨J5.1,J5.2.1⟩)
     have acB:=zYz fH
     have yJ:=yW P5 fH
     refine ⟨_,rfl,yJ,?_⟩
     refine bP (v:=.bool true) (fun X=>ed (ET.uniq J4 J5) X) yJ rfl rfl rfl rfl rfl rfl ?_
     refine aG yJ rfl ?_
     refine bn (part:=[.bool (decide (m5<0)),.slice A7 (limbs (Int.natAbs m5)).length c8,.int .i64 e6]) (fun X hX=>zZz (zZz dz (yW aT bu)) hX) rfl Tryz.underlying26 rfl (by kernel_rfl) yJ rfl rfl rfl rfl rfl ?_
     refine bn (part:=[.bool (decide (m5<0)),.slice A7 (limbs (Int.natAbs m5)).length c8,.int .i64 e6]) (fun X hX=>zZz (zZz dz (yW aT bu)) hX) rfl Tryz.underlying26 rfl (by kernel_rfl) yJ rfl rfl rfl rfl rfl ?_
     refine ay rfl rfl rfl rfl rfl (fun u X=>enters Tryz.func22 (by kernel_rfl) rfl u X) ?_
     refine Calls.mono (iY _ _ x _ _ _ (Dn.mk (Un.below u9 (yW bG (yW aT (yW bu (yW dN (yW dR (yW dS (yW dV (yW hE20 fH))))))))) dw.can dw.val dw.sz dw.lo dw.hi)) ?_
     rintro e w22 ⟨ZB,rfl,J6,fQ⟩
     have acC:=(show -1≤ZB∧ZB≤1 from ⟨J6.1,J6.2.1⟩)
     have acD:=zYz fQ
     have P6:=yW yJ fQ
     refine ⟨_,rfl,P6,?_⟩
     refine ay rfl rfl rfl rfl rfl (fun u X=>enters Tryz.func23 (by kernel_rfl) rfl u X) ?_
     refine Calls.mono (xx _ _ x _ _ _ (Dn.mk (Un.below u9 (yW bG (yW aT (yW bu (yW dN (yW dR (yW dS (yW dV (yW hE20 (yW fH fQ)))))))))) dw.can dw.val dw.sz dw.lo dw.hi) (by decide)) ?_
     rintro e w23 ⟨ZC,rfl,J7,fZ⟩
     have acE:=(show -1≤ZC∧ZC≤1 from ⟨J7.1,J7.2.1⟩)
     have acF:=zYz fZ
     have yK:=yW P6 fZ
     refine ⟨_,rfl,yK,?_⟩
     refine bP (v:=.bool true) (fun X=>ed (EP.uniq J6 J7) X) yK rfl rfl rfl rfl rfl rfl ?_
     refine aG yK rfl ?_
     refine bn (part:=[.bool (decide (m5<0)),.slice A7 (limbs (Int.natAbs m5)).length c8,.int .i64 e6]) (fun X hX=>zZz (zZz dz (yW aT bu)) hX) rfl Tryz.underlying26 rfl (by kernel_rfl) yK rfl rfl rfl rfl rfl ?_
     refine bn (part:=[.bool (decide (m5<0)),.slice A7 (limbs (Int.natAbs m5)).length c8,.int .i64 e6]) (fun X hX=>zZz (zZz dz (yW aT bu)) hX) rfl Tryz.underlying26 rfl (by kernel_rfl) yK rfl rfl rfl rfl rfl ?_
     refine ay rfl rfl rfl rfl rfl (fun u X=>enters Tryz.func24 (by kernel_rfl) rfl u X) ?_
     refine Calls.mono (vF _ _ x _ _ _ (Dn.mk (Un.below u9 (yW bG (yW aT (yW bu (yW dN (yW dR (yW dS (yW dV (yW hE20 (yW fH (yW fQ fZ))))))))))) dw.can dw.val dw.sz dw.lo dw.hi)) ?_
     rintro e w24 ⟨v43,rfl,Xg,gB⟩
     obtain ⟨m44,e45,A46,c47,rfl,u48,J8⟩:=Xg
     have acG:=J8.lo
     have acH:=J8.hi
     have acI:=zYz gB
     have P7:=yW yK gB
     refine ⟨_,rfl,P7,?_⟩
     refine ay rfl rfl rfl rfl rfl (fun u X=>enters Tryz.func25 (by kernel_rfl) rfl u X) ?_
     refine Calls.mono (zo _ _ x _ _ _ (Dn.mk (Un.below u9 (yW bG (yW aT (yW bu (yW dN (yW dR (yW dS (yW dV (yW hE20 (yW fH (yW fQ (yW fZ gB)))))))))))) dw.can dw.val dw.sz dw.lo dw.hi) (by decide)) ?_
     rintro e w25 ⟨v50,rfl,Xh,gD⟩
     obtain ⟨m51,e52,A53,c54,rfl,u55,J9⟩:=Xh
     have acJ:=J9.lo
     have acK:=J9.hi
     have acL:=zYz gD
     have P8:=yW P7 gD
     refine ⟨_,rfl,P8,?_⟩
     refine ay rfl rfl rfl rfl rfl (fun u X=>enters Tryz.func17 (by kernel_rfl) rfl u X) ?_
     refine Calls.mono (aS _ _ _ (-x) (-x) _ _ _ _ _ _ (Dn.mk (Un.below u48 gD) J8.can J8.val J8.sz J8.lo J8.hi) (Dn.mk u55 J9.can J9.val J9.sz J9.lo J9.hi) (by decide) (by decide)) ?_
     rintro e w26 ⟨rfl,gK⟩
     rw [decide_eq_true (show (-x)=(-x) from rfl)]
     have acM:=zYz gK
     have vJ:=yW P8 gK
     refine ⟨_,rfl,vJ,?_⟩
     refine aG vJ rfl ?_
     refine bn (part:=[.bool (decide (m5<0)),.slice A7 (limbs (Int.natAbs m5)).length c8,.int .i64 e6]) (fun X hX=>zZz (zZz dz (yW aT bu)) hX) rfl Tryz.underlying26 rfl (by kernel_rfl) vJ rfl rfl rfl rfl rfl ?_
     refine bn (part:=[.bool (decide (m12<0)),.slice rD (limbs (Int.natAbs m12)).length c15,.int .i64 e13]) (fun X hX=>zZz (zZz gy (yW aT bu)) hX) rfl Tryz.underlying26 rfl (by kernel_rfl) vJ rfl rfl rfl rfl rfl ?_
     refine bn (part:=[.bool (decide (m5<0)),.slice A7 (limbs (Int.natAbs m5)).length c8,.int .i64 e6]) (fun X hX=>zZz (zZz dz (yW aT bu)) hX) rfl Tryz.underlying26 rfl (by kernel_rfl) vJ rfl rfl rfl rfl rfl ?_
     refine bn (part:=[.bool (decide (m12<0)),.slice rD (limbs (Int.natAbs m12)).length c15,.int .i64 e13]) (fun X hX=>zZz (zZz gy (yW aT bu)) hX) rfl Tryz.underlying26 rfl (by kernel_rfl) vJ rfl rfl rfl rfl rfl ?_
     refine ay rfl rfl rfl rfl rfl (fun u X=>enters Tryz.func26 (by kernel_rfl) rfl u X) ?_
     refine Calls.mono (qO _ (hg.ext (yW hE1 (yW hE2 (yW aJ (yW aP (yW aW (yW bO (yW cB (yW iX (yW bG (yW aT (yW bu (yW dN (yW dR (yW dS (yW dV (yW hE20 (yW fH (yW fQ (yW fZ (yW gB (yW gD gK)))))))))))))))))))))) _ _ x y 10 23 (-200) 520 (Dn.le (Dn.mk (Un.below u9 (yW bG (yW aT (yW bu (yW dN (yW dR (yW dS (yW dV (yW hE20 (yW fH (yW fQ (yW fZ (yW gB (yW gD gK)))))))))))))) dw.can dw.val dw.sz dw.lo dw.hi) (by decide) (by decide) (by decide)) (Dn.le (Dn.mk (Un.below u16 (yW bG (yW aT (yW bu (yW dN (yW dR (yW dS (yW dV (yW hE20 (yW fH (yW fQ (yW fZ (yW gB (yW gD gK)))))))))))))) fT.can fT.val fT.sz fT.lo fT.hi) (by decide) (by decide) (by decide)) (by decide) (by decide) (by decide) (by decide) (-201) 1608 (by decide) (by decide) (by decide) (by decide)) ?_
     rintro e w27 ⟨v57,rfl,Xi,iy⟩
     obtain ⟨m58,e59,A60,c61,rfl,u62,Ka⟩:=Xi
     have acO:=Ka.lo
     have acP:=Ka.hi
     have acQ:=zYz iy
     have P9:=yW vJ iy
     refine ⟨_,rfl,P9,?_⟩
     refine ay rfl rfl rfl rfl rfl (fun u X=>enters Tryz.func27 (by kernel_rfl) rfl u X) ?_
     refine Calls.mono (zh _ _ _ x y 10 17 (-200) 520 (Dn.le (Dn.mk (Un.below u9 (yW bG (yW aT (yW bu (yW dN (yW dR (yW dS (yW dV (yW hE20 (yW fH (yW fQ (yW fZ (yW gB (yW gD (yW gK iy))))))))))))))) dw.can dw.val dw.sz dw.lo dw.hi) (by decide) (by decide) (by decide):Dn _ _ _ 10 (-200) 520) (Dn.le (Dn.mk (Un.below u16 (yW bG (yW aT (yW bu (yW dN (yW dR (yW dS (yW dV (yW hE20 (yW fH (yW fQ (yW fZ (yW gB (yW gD (yW gK iy))))))))))))))) fT.can fT.val fT.sz fT.lo fT.hi) (by decide) (by decide) (by decide):Dn _ _ _ 10 (-200) 520) (by decide) (by decide) (by decide) 48 38 (by decide) (by decide) (by decide) (by decide) (-1216) 1536 (by decide) (by decide)) ?_
     rintro e w28 ⟨v64,rfl,hv64,iH⟩
     obtain ⟨m65,e66,A67,c68,rfl,u69,Kb⟩:=hv64
     have acR:=Kb.lo
     have acS:=Kb.hi
     have acT:=zYz iH
     have Qa:=yW P9 iH
     refine ⟨_,rfl,Qa,?_⟩
     refine ay rfl rfl rfl rfl rfl (fun u X=>enters Tryz.func17 (by kernel_rfl) rfl u X) ?_
     refine Calls.mono (aS _ _ _ (x+y) (x+y) _ _ _ _ _ _ (Dn.mk (Un.below u62 iH) Ka.can Ka.val Ka.sz Ka.lo Ka.hi) (Dn.mk u69 Kb.can Kb.val Kb.sz Kb.lo Kb.hi) (by decide) (by decide)) ?_
     rintro e w29 ⟨rfl,iR⟩
     rw [decide_eq_true (show (x+y)=(x+y) from rfl)]
     have acU:=zYz iR
     have vK:=yW Qa iR
     refine ⟨_,rfl,vK,?_⟩
     refine aG vK rfl ?_
     refine bn (part:=[.bool (decide (m5<0)),.slice A7 (limbs (Int.natAbs m5)).length c8,.int .i64 e6]) (fun X hX=>zZz (zZz dz (yW aT bu)) hX) rfl Tryz.underlying26 rfl (by kernel_rfl) vK rfl rfl rfl rfl rfl ?_
     refine bn (part:=[.bool (decide (m12<0)),.slice rD (limbs (Int.natAbs m12)).length c15,.int .i64 e13]) (fun X hX=>zZz (zZz gy (yW aT bu)) hX) rfl Tryz.underlying26 rfl (by kernel_rfl) vK rfl rfl rfl rfl rfl ?_
     refine bn (part:=[.bool (decide (m5<0)),.slice A7 (limbs (Int.natAbs m5)).length c8,.int .i64 e6]) (fun X hX=>zZz (zZz dz (yW aT bu)) hX) rfl Tryz.underlying26 rfl (by kernel_rfl) vK rfl rfl rfl rfl rfl ?_
     refine bn (part:=[.bool (decide (m12<0)),.slice rD (limbs (Int.natAbs m12)).length c15,.int .i64 e13]) (fun X hX=>zZz (zZz gy (yW aT bu)) hX) rfl Tryz.underlying26 rfl (by kernel_rfl) vK rfl rfl rfl rfl rfl ?_
     refine ay rfl rfl rfl rfl rfl (fun u X=>enters Tryz.func28 (by kernel_rfl) rfl u X) ?_
     refine Calls.mono (Cc _ (hg.ext (yW hE1 (yW hE2 (yW aJ (yW aP (yW aW (yW bO (yW cB (yW iX (yW bG (yW aT (yW bu (yW dN (yW dR (yW dS (yW dV (yW hE20 (yW fH (yW fQ (yW fZ (yW gB (yW gD (yW gK (yW iy (yW iH iR))))))))))))))))))))))))) _ _ x y 10 23 (-200) 520 (Dn.le (Dn.mk (Un.below u9 (yW bG (yW aT (yW bu (yW dN (yW dR (yW dS (yW dV (yW hE20 (yW fH (yW fQ (yW fZ (yW gB (yW gD (yW gK (yW iy (yW iH iR))))))))))))))))) dw.can dw.val dw.sz dw.lo dw.hi) (by decide) (by decide) (by decide):Dn _ _ _ 10 (-200) 520) (Dn.le (Dn.mk (Un.below u16 (yW bG (yW aT (yW bu (yW dN (yW dR (yW dS (yW dV (yW hE20 (yW fH (yW fQ (yW fZ (yW gB (yW gD (yW gK (yW iy (yW iH iR))))))))))))))))) fT.can fT.val fT.sz fT.lo fT.hi) (by decide) (by decide) (by decide):Dn _ _ _ 10 (-200) 520) (by decide) (by decide) (by decide) (by decide) (-201) 1608 (by decide) (by decide) (by decide) (by decide)) ?_
     rintro e w30 ⟨v71,rfl,Xj,jJ⟩
     obtain ⟨m72,e73,A74,c75,rfl,u76,Kc⟩:=Xj
     have acW:=Kc.lo
     have acX:=Kc.hi
     have acY:=zYz jJ
     have Qb:=yW vK jJ
     refine ⟨_,rfl,Qb,?_⟩
     refine ay rfl rfl rfl rfl rfl (fun u X=>enters Tryz.func29 (by kernel_rfl) rfl u X) ?_
     refine Calls.mono (zi _ _ _ x y 10 17 (-200) 520 (Dn.le (Dn.mk (Un.below u9 (yW bG (yW aT (yW bu (yW dN (yW dR (yW dS (yW dV (yW hE20 (yW fH (yW fQ (yW fZ (yW gB (yW gD (yW gK (yW iy (yW iH (yW iR jJ)))))))))))))))))) dw.can dw.val dw.sz dw.lo dw.hi) (by decide) (by decide) (by decide):Dn _ _ _ 10 (-200) 520) (Dn.le (Dn.mk (Un.below u16 (yW bG (yW aT (yW bu (yW dN (yW dR (yW dS (yW dV (yW hE20 (yW fH (yW fQ (yW fZ (yW gB (yW gD (yW gK (yW iy (yW iH (yW iR jJ)))))))))))))))))) fT.can fT.val fT.sz fT.lo fT.hi) (by decide) (by decide) (by decide):Dn _ _ _ 10 (-200) 520) (by decide) (by decide) (by decide) 48 38 (by decide) (by decide) (by decide) (by decide) (-1216) 1536 (by decide) (by decide)) ?_
     rintro e w31 ⟨v78,rfl,Xk,jP⟩
     obtain ⟨m79,e80,A81,c82,rfl,u83,Ke⟩:=Xk
     have ac0:=Ke.lo
     have ac1:=Ke.hi
     have ac2:=zYz jP
     have Qc:=yW Qb jP
     refine ⟨_,rfl,Qc,?_⟩
     refine ay rfl rfl rfl rfl rfl (fun u X=>enters Tryz.func17 (by kernel_rfl) rfl u X) ?_
     refine Calls.mono (aS _ _ _ (x-y) (x-y) _ _ _ _ _ _ (Dn.mk (Un.below u76 jP) Kc.can Kc.val Kc.sz Kc.lo Kc.hi) (Dn.mk u83 Ke.can Ke.val Ke.sz Ke.lo Ke.hi) (by decide) (by decide)) ?_
     rintro e w32 ⟨rfl,kG⟩
     rw [decide_eq_true (show (x-y)=(x-y) from rfl)]
     have ac3:=zYz kG
     have nS:=yW Qc kG
     refine ⟨_,rfl,nS,?_⟩
     refine aG nS rfl ?_
     refine bn (part:=[.bool (decide (m5<0)),.slice A7 (limbs (Int.natAbs m5)).length c8,.int .i64 e6]) (fun X hX=>zZz (zZz dz (yW aT bu)) hX) rfl Tryz.underlying26 rfl (by kernel_rfl) nS rfl rfl rfl rfl rfl ?_
     refine bn (part:=[.bool (decide (m12<0)),.slice rD (limbs (Int.natAbs m12)).length c15,.int .i64 e13]) (fun X hX=>zZz (zZz gy (yW aT bu)) hX) rfl Tryz.underlying26 rfl (by kernel_rfl) nS rfl rfl rfl rfl rfl ?_
     refine bn (part:=[.bool (decide (m5<0)),.slice A7 (limbs (Int.natAbs m5)).length c8,.int .i64 e6]) (fun X hX=>zZz (zZz dz (yW aT bu)) hX) rfl Tryz.underlying26 rfl (by kernel_rfl) nS rfl rfl rfl rfl rfl ?_
     refine bn (part:=[.bool (decide (m12<0)),.slice rD (limbs (Int.natAbs m12)).length c15,.int .i64 e13]) (fun X hX=>zZz (zZz gy (yW aT bu)) hX) rfl Tryz.underlying26 rfl (by kernel_rfl) nS rfl rfl rfl rfl rfl ?_
     refine ay rfl rfl rfl rfl rfl (fun u X=>enters Tryz.func30 (by kernel_rfl) rfl u X) ?_
     refine Calls.mono (Ce _ (hg.ext (yW hE1 (yW hE2 (yW aJ (yW aP (yW aW (yW bO (yW cB (yW iX (yW bG (yW aT (yW bu (yW dN (yW dR (yW dS (yW dV (yW hE20 (yW fH (yW fQ (yW fZ (yW gB (yW gD (yW gK (yW iy (yW iH (yW iR (yW jJ (yW jP kG)))))))))))))))))))))))))))) _ _ x y 10 10 (-200) 520 (Dn.le (Dn.mk (Un.below u9 (yW bG (yW aT (yW bu (yW dN (yW dR (yW dS (yW dV (yW hE20 (yW fH (yW fQ (yW fZ (yW gB (yW gD (yW gK (yW iy (yW iH (yW iR (yW jJ (yW jP kG)))))))))))))))))))) dw.can dw.val dw.sz dw.lo dw.hi) (by decide) (by decide) (by decide):Dn _ _ _ 10 (-200) 520) (Dn.le (Dn.mk (Un.below u16 (yW bG (yW aT (yW bu (yW dN (yW dR (yW dS (yW dV (yW hE20 (yW fH (yW fQ (yW fZ (yW gB (yW gD (yW gK (yW iy (yW iH (yW iR (yW jJ (yW jP kG)))))))))))))))))))) fT.can fT.val fT.sz fT.lo fT.hi) (by decide) (by decide) (by decide):Dn _ _ _ 10 (-200) 520) (by decide) (by decide) (by decide) (by decide) (-400) 1680 (by decide) (by decide) (by decide) (by decide)) ?_
     rintro e w33 ⟨v85,rfl,Xl,mR⟩
     obtain ⟨m86,e87,A88,c89,rfl,u90,Kg⟩:=Xl
     have ac5:=Kg.lo
     have ac6:=Kg.hi
     have ac7:=zYz mR
     have Qd:=yW nS mR
     refine ⟨_,rfl,Qd,?_⟩
     refine ay rfl rfl rfl rfl rfl (fun u X=>enters Tryz.func31 (by kernel_rfl) rfl u X) ?_
     refine Calls.mono (zk _ _ _ x y 10 17 (-200) 520 (Dn.le (Dn.mk (Un.below u9 (yW bG (yW aT (yW bu (yW dN (yW dR (yW dS (yW dV (yW hE20 (yW fH (yW fQ (yW fZ (yW gB (yW gD (yW gK (yW iy (yW iH (yW iR (yW jJ (yW jP (yW kG mR))))))))))))))))))))) dw.can dw.val dw.sz dw.lo dw.hi) (by decide) (by decide) (by decide):Dn _ _ _ 10 (-200) 520) (Dn.le (Dn.mk (Un.below u16 (yW bG (yW aT (yW bu (yW dN (yW dR (yW dS (yW dV (yW hE20 (yW fH (yW fQ (yW fZ (yW gB (yW gD (yW gK (yW iy (yW iH (yW iR (yW jJ (yW jP (yW kG mR))))))))))))))))))))) fT.can fT.val fT.sz fT.lo fT.hi) (by decide) (by decide) (by decide):Dn _ _ _ 10 (-200) 520) (by decide) (by decide) (by decide) 56 38 (by decide) (by decide) (by decide) (by decide) (-1216) 1792 (by decide) (by decide)) ?_
     rintro e w34 ⟨v92,rfl,Xm,oz⟩
     obtain ⟨m93,e94,A95,c96,rfl,u97,Kh⟩:=Xm
     have ac9:=Kh.lo
     have ac':=Kh.hi
     have ada:=zYz oz
     have Qe:=yW Qd oz
     refine ⟨_,rfl,Qe,?_⟩
     refine ay rfl rfl rfl rfl rfl (fun u X=>enters Tryz.func17 (by kernel_rfl) rfl u X) ?_
     refine Calls.mono (aS _ _ _ (x*y) (x*y) _ _ _ _ _ _ (Dn.mk (Un.below u90 oz) Kg.can Kg.val Kg.sz Kg.lo Kg.hi) (Dn.mk u97 Kh.can Kh.val Kh.sz Kh.lo Kh.hi) (by decide) (by decide)) ?_
     rintro e w35 ⟨rfl,pO⟩
     rw [decide_eq_true (show (x*y)=(x*y) from rfl)]
     have adb:=zYz pO
     have vL:=yW Qe pO
     refine ⟨_,rfl,vL,?_⟩
     refine aG vL rfl ?_
     refine bn (part:=[.bool (decide (m5<0)),.slice A7 (limbs (Int.natAbs m5)).length c8,.int .i64 e6]) (fun X hX=>zZz (zZz dz (yW aT bu)) hX) rfl Tryz.underlying26 rfl (by kernel_rfl) vL rfl rfl rfl rfl rfl ?_
     refine bn (part:=[.bool (decide (m12<0)),.slice rD (limbs (Int.natAbs m12)).length c15,.int .i64 e13]) (fun X hX=>zZz (zZz gy (yW aT bu)) hX) rfl Tryz.underlying26 rfl (by kernel_rfl) vL rfl rfl rfl rfl rfl ?_
     refine bn (part:=[.bool (decide (m5<0)),.slice A7 (limbs (Int.natAbs m5)).length c8,.int .i64 e6]) (fun X hX=>zZz (zZz dz (yW aT bu)) hX) rfl Tryz.underlying26 rfl (by kernel_rfl) vL rfl rfl rfl rfl rfl ?_
     refine bn (part:=[.bool (decide (m12<0)),.slice rD (limbs (Int.natAbs m12)).length c15,.int .i64 e13]) (fun X hX=>zZz (zZz gy (yW aT bu)) hX) rfl Tryz.underlying26 rfl (by kernel_rfl) vL rfl rfl rfl rfl rfl ?_
     refine ay rfl rfl rfl rfl rfl (fun u X=>enters Tryz.func32 (by kernel_rfl) rfl u X) ?_
     refine Calls.mono (vM _ (hg.ext (yW hE1 (yW hE2 (yW aJ (yW aP (yW aW (yW bO (yW cB (yW iX (yW bG (yW aT (yW bu (yW dN (yW dR (yW dS (yW dV (yW hE20 (yW fH (yW fQ (yW fZ (yW gB (yW gD (yW gK (yW iy (yW iH (yW iR (yW jJ (yW jP (yW kG (yW mR (yW oz pO))))))))))))))))))))))))))))))) _ _ x y 10 23 (-200) 520 (Dn.le (Dn.mk (Un.below u9 (yW bG (yW aT (yW bu (yW dN (yW dR (yW dS (yW dV (yW hE20 (yW fH (yW fQ (yW fZ (yW gB (yW gD (yW gK (yW iy (yW iH (yW iR (yW jJ (yW jP (yW kG (yW mR (yW oz pO))))))))))))))))))))))) dw.can dw.val dw.sz dw.lo dw.hi) (by decide) (by decide) (by decide)) (Dn.le (Dn.mk (Un.below u16 (yW bG (yW aT (yW bu (yW dN (yW dR (yW dS (yW dV (yW hE20 (yW fH (yW fQ (yW fZ (yW gB (yW gD (yW gK (yW iy (yW iH (yW iR (yW jJ (yW jP (yW kG (yW mR (yW oz pO))))))))))))))))))))))) fT.can fT.val fT.sz fT.lo fT.hi) (by decide) (by decide) (by decide)) (by decide) (by decide) (by decide) (by decide) (-201) 1608 (by decide) (by decide) (by decide) (by decide)) ?_
     rintro e w36 ⟨v99,rfl,hv99,vN⟩
     obtain ⟨ade,adf,adg,adh,rfl,Xn,vO⟩:=hv99
     have ZE:=vO.lo
     have ZF:=vO.hi
     have adi:=zYz vN
     have Qf:=yW vL vN
     refine ⟨_,rfl,Qf,?_⟩
     refine ay rfl rfl rfl rfl rfl (fun u X=>enters Tryz.func33 (by kernel_rfl) rfl u X) ?_
     refine Calls.mono (zm _ _ _ x y 10 17 (-200) 520 (Dn.le (Dn.mk (Un.below u9 (yW bG (yW aT (yW bu (yW dN (yW dR (yW dS (yW dV (yW hE20 (yW fH (yW fQ (yW fZ (yW gB (yW gD (yW gK (yW iy (yW iH (yW iR (yW jJ (yW jP (yW kG (yW mR (yW oz (yW pO vN)))))))))))))))))))))))) dw.can dw.val dw.sz dw.lo dw.hi) (by decide) (by decide) (by decide):Dn _ _ _ 10 (-200) 520) (Dn.le (Dn.mk (Un.below u16 (yW bG (yW aT (yW bu (yW dN (yW dR (yW dS (yW dV (yW hE20 (yW fH (yW fQ (yW fZ (yW gB (yW gD (yW gK (yW iy (yW iH (yW iR (yW jJ (yW jP (yW kG (yW mR (yW oz (yW pO vN)))))))))))))))))))))))) fT.can fT.val fT.sz fT.lo fT.hi) (by decide) (by decide) (by decide):Dn _ _ _ 10 (-200) 520) (by decide) (by decide) (by decide) 50 40 (by decide) (by decide) (by decide) (by decide) (-1280) 1600 (by decide) (by decide)) ?_
     rintro e w37 ⟨adj,rfl,Qg,yL⟩
     obtain ⟨adk,e108,adl,adm,rfl,Xo,vP⟩:=Qg
     have ZG:=vP.lo
     have ZH:=vP.hi
     have adn:=zYz yL
     have Qh:=yW Qf yL
     refine ⟨_,rfl,Qh,?_⟩
     refine ay rfl rfl rfl rfl rfl (fun u X=>enters Tryz.func17 (by kernel_rfl) rfl u X) ?_
     refine Calls.mono (aS _ _ _ ((x+y)/2) ((x+y)/2) _ _ _ _ _ _ (Dn.mk (Un.below Xn yL) vO.can vO.val vO.sz vO.lo vO.hi) (Dn.mk Xo vP.can vP.val vP.sz vP.lo vP.hi) (by decide) (by decide)) ?_
     rintro e w38 ⟨rfl,Cg⟩
     rw [decide_eq_true (show ((x+y)/2)=((x+y)/2) from rfl)]
     have ado:=zYz Cg
     have Ch:=yW Qh Cg
     refine ⟨_,rfl,Ch,?_⟩
     refine aG Ch rfl ?_
     refine bn (part:=[.bool (decide (m5<0)),.slice A7 (limbs (Int.natAbs m5)).length c8,.int .i64 e6]) (fun X hX=>zZz (zZz dz (yW aT bu)) hX) rfl Tryz.underlying26 rfl (by kernel_rfl) Ch rfl rfl rfl rfl rfl ?_
     refine bn (part:=[.bool (decide (m5<0)),.slice A7 (limbs (Int.natAbs m5)).length c8,.int .i64 e6]) (fun X hX=>zZz (zZz dz (yW aT bu)) hX) rfl Tryz.underlying26 rfl (by kernel_rfl) Ch rfl rfl rfl rfl rfl ?_
     refine ay rfl rfl rfl rfl rfl (fun u X=>enters Tryz.func35 (by kernel_rfl) rfl u X) ?_
     refine Calls.mono (vQ _ _ x 10 17 7 _ _ (Dn.mk (Un.below u9 (yW bG (yW aT (yW bu (yW dN (yW dR (yW dS (yW dV (yW hE20 (yW fH (yW fQ (yW fZ (yW gB (yW gD (yW gK (yW iy (yW iH (yW iR (yW jJ (yW jP (yW kG (yW mR (yW oz (yW pO (yW vN (yW yL Cg)))))))))))))))))))))))))) dw.can dw.val dw.sz dw.lo dw.hi) (by decide) (by decide) (by decide) (by decide) (by decide) (by decide)) ?_
     rintro e w39 ⟨adp,rfl,hv113,Fh⟩
     obtain ⟨adq,adr,ads,c117,rfl,Xp,u119,Qi,Qj⟩:=hv113
     have adt:=zYz Fh
     have Qk:=yW Ch Fh
     refine ⟨_,rfl,Qk,?_⟩
     refine ay rfl rfl rfl rfl rfl (fun u X=>enters Tryz.func36 (by kernel_rfl) rfl u X) ?_
     refine Calls.mono (bY _ _ x 10 17 _ _ (Dn.mk (Un.below u9 (yW bG (yW aT (yW bu (yW dN (yW dR (yW dS (yW dV (yW hE20 (yW fH (yW fQ (yW fZ (yW gB (yW gD (yW gK (yW iy (yW iH (yW iR (yW jJ (yW jP (yW kG (yW mR (yW oz (yW pO (yW vN (yW yL (yW Cg Fh))))))))))))))))))))))))))) dw.can dw.val dw.sz dw.lo dw.hi) (by omega) (by omega) (by omega) (by omega)) ?_
     rintro e w40 ⟨adu,rfl,Ql,Ci⟩
     obtain ⟨adv,adw,adx,ady,rfl,Xq,u127,Qm,Qo⟩:=Ql
     have adz:=zYz Ci
     have Qp:=yW Qk Ci
     refine ⟨_,rfl,Qp,?_⟩
     refine ay rfl rfl rfl rfl rfl (fun u X=>enters Tryz.func34 (by kernel_rfl) rfl u X) ?_
     refine Calls.mono (sQ _ _ _ x x 27 7 28 19 (Qn.mk (Un.below Xp Ci) (Un.below u119 Ci) Qi Qj) (Qn.mk Xq u127 Qm Qo) (by omega) (by omega) (by omega) (by omega)) ?_
     rintro e w41 ⟨rfl,Ki⟩
     rw [decide_eq_true (show x=x from rfl)]
     have adA:=zYz Ki
     have Qq:=yW Qp Ki
     refine ⟨_,rfl,Qq,?_⟩
     refine aG Qq rfl ?_
     refine aj ?_
     repeat refine af ?_
     exact aZ rfl rfl  (⟨rfl,(yW hE1 (yW hE2 (yW aJ (yW aP (yW aW (yW bO (yW cB (yW iX (yW bG (yW aT (yW bu (yW dN (yW dR (yW dS (yW dV (yW hE20 (yW fH (yW fQ (yW fZ (yW gB (yW gD (yW gK (yW iy (yW iH (yW iR (yW jJ (yW jP (yW kG (yW mR (yW oz (yW pO (yW vN (yW yL (yW Cg (yW Fh (yW Ci Ki))))))))))))))))))))))))))))))))))))⟩)
   · replace hr:=(Bool.not_eq_true _).mp hr
     repeat refine af ?_
     refine fU (S:=fun X=>Pl.Ex w4 X) [(true,0,0),(true,2,1),(false,1,5),(false,3,7),(true,4,15)] fo aR (by kernel_rfl) (yW (Pl.Ex.refl _) (Pl.Ex.drew _)) ?_
     have aW:=Pl.Ex.drew w4
     generalize w4.drew=w5 at *
     have mI:=zYz aW
     intro hS5
     refine bn (part:=[.bool b9,.slice A9 r9.length c9,.int .i64 pJ]) (fun X hX=>zZz k9 hX) rfl Tryz.underlying26 rfl (by kernel_rfl) hS5 rfl rfl rfl rfl rfl ?_
     refine bn (part:=[.bool b9,.slice A9 r9.length c9,.int .i64 pJ]) (fun X hX=>zZz k9 hX) rfl Tryz.underlying26 rfl (by kernel_rfl) hS5 rfl rfl rfl rfl rfl ?_
     refine ay rfl rfl rfl rfl rfl (fun u X=>enters Tryz.func13 (by kernel_rfl) rfl u X) ?_
     refine Calls.mono (NA _ _ _ _ _ _ (U.below u9 aW) hr) ?_
     rintro e w6 ⟨rfl,bO⟩
     have rC:=zYz bO
     have kD:=yW hS5 bO
     refine ⟨_,rfl,kD,?_⟩
     refine ay rfl rfl rfl rfl rfl (fun u X=>enters Tryz.func14 (by kernel_rfl) rfl u X) ?_
     refine Calls.mono (JV _ _ _ _ _ _ (U.below u9 (yW aW bO)) hr) ?_
     rintro e w7 ⟨rfl,cB⟩
     have wm:=zYz cB
     have lJ:=yW kD cB
     refine ⟨_,rfl,lJ,?_⟩
     refine bP (v:=.bool false) (fun X=>Mk Tryz.underlying4 _ X) lJ rfl rfl rfl rfl rfl rfl ?_
     refine aj ?_
     repeat refine af ?_
     refine dH rfl ?_
     repeat refine af ?_
     refine fG ?_
     repeat refine af ?_
     refine ah (by kernel_rfl) ?_
     refine bg (part:=[.bool bx0,.slice Ax iQ.length cx,.int .i64 pJ]) (zZz ak (yW hE2 (yW aJ (yW aP (yW aW (yW bO cB)))))) rfl Tryz.underlying26 rfl (by kernel_rfl) trivial rfl rfl rfl rfl rfl ?_
     refine bg (part:=[.bool H8,.slice Ay Dz.length cy,.int .i64 H9]) (zZz aA (yW aJ (yW aP (yW aW (yW bO cB))))) rfl Tryz.underlying26 rfl (by kernel_rfl) trivial rfl rfl rfl rfl rfl ?_
     refine ay rfl rfl rfl rfl rfl (fun u X=>enters Tryz.func15 (by kernel_rfl) rfl u X) ?_
     refine Calls.mono (Eg _ _ _ _ _ _ (U.below Gu (yW hE1 (yW hE2 (yW aJ (yW aP (yW aW (yW bO cB))))))) _ _ _ _ _ (U.below huy (yW hE1 (yW hE2 (yW aJ (yW aP (yW aW (yW bO cB)))))))) ?_
     rintro e w8 ⟨v4,v11,rfl,hv4,jN,iX⟩
     rw [TP] at hv4
     rw [Zv] at jN
     obtain ⟨m5,e6,A7,c8,rfl,u9,dw⟩:=hv4
     have Zt:=dw.lo
     have Zu:=dw.hi
     obtain ⟨m12,e13,rD,c15,rfl,u16,fT⟩:=jN
     have Zd:=fT.lo
     have Ze:=fT.hi
     have EW:=zYz iX
     refine ⟨_,rfl,trivial,?_⟩
     refine aG trivial rfl ?_
     refine bK (z:=.agg #[.bool false,.slice none 0 0,.int .i64 0]) (by kernel_rfl) rfl rfl rfl rfl (fun Y hY=>trivial) ?_
     intro N18 w9 rE Xb nD
     have Zw:=Pl.Cb.lt nD
     have sz9:=zYz rE
     replace nD:Pl.Cb w9 N18 26 [.bool false,.slice none 0 0,.int .i64 0]:=nD
     refine bK (z:=.agg #[.bool false,.slice none 0 0,.int .i64 0]) (by kernel_rfl) rfl rfl rfl rfl (fun Y hY=>trivial) ?_
     intro N19 Ic fu Xc nE
     have Zx:=Pl.Cb.lt nE
     have TW:=zYz fu
     replace nE:Pl.Cb Ic N19 26 [.bool false,.slice none 0 0,.int .i64 0]:=nE
     refine bz (new:=[.bool (decide (m5<0)),.slice A7 (limbs (Int.natAbs m5)).length c8,.int .i64 e6]) (zZz nD fu) (by kernel_rfl) rfl (by simp [Value.oneCell']) rfl rfl rfl rfl rfl rfl (fun Y hY=>trivial) ?_
     intro Oz JY Fe
     have dX:=Pl.Ex.xs (yW rE fu) JY (by omega)
     have NC:=Xs.size JY
     have Ff:=Pl.Cb.xs nE JY (by simp;omega)
     refine bz (new:=[.bool (decide (m12<0)),.slice rD (limbs (Int.natAbs m12)).length c15,.int .i64 e13]) Ff (by kernel_rfl) rfl (by simp [Value.oneCell']) rfl rfl rfl rfl rfl rfl (fun Y hY=>trivial) ?_
     intro OA oJ gy
     have bG:=Pl.Ex.xs dX oJ (by omega)
     have DC:=Xs.size oJ
     have dz:=Pl.Cb.xs Fe oJ (by simp;omega)
     refine aj ?_
     repeat refine af ?_
     refine ah (by kernel_rfl) ?_
     refine aL (.pointer (some ⟨N1,0,none⟩)) trivial rfl rfl rfl rfl (fun X=>by kernel_rfl) ?_
     refine bg (part:=[.bool bx0,.slice Ax iQ.length cx]) (zZz ak (yW hE2 (yW aJ (yW aP (yW aW (yW bO (yW cB (yW iX bG)))))))) rfl Tryz.underlying24 rfl (by kernel_rfl) trivial rfl rfl rfl rfl rfl ?_
     refine ay rfl rfl rfl rfl rfl (fun u X=>enters Tryz.func16 (by kernel_rfl) rfl u X) ?_
     refine Calls.mono (l6 _ _ _ _ (Ri.below (⟨_,_,rfl,Gu⟩:Ri w _ bx0 iQ) (yW hE1 (yW hE2 (yW aJ (yW aP (yW aW (yW bO (yW cB (yW iX bG))))))))) 10 _ rfl (by omega) _ rfl) ?_
     rintro e OB ⟨v20,rfl,PX,aT⟩
     rw [h9m] at PX
     obtain ⟨Xd,Xe,rfl,u23⟩:=PX
     have DD:=zYz aT
     refine ⟨_,rfl,trivial,?_⟩
     refine bK (z:=.agg #[.bool false,.slice none 0 0]) (by kernel_rfl) rfl rfl rfl rfl (fun Y hY=>trivial) ?_
     intro N24 Ml gG Xf nG
     have Zy:=Pl.Cb.lt nG
     have DF:=zYz gG
     replace nG:Pl.Cb Ml N24 24 [.bool false,.slice none 0 0]:=nG
     refine bz (new:=[.bool (decide (m<0)),.slice Xd (limbs (Int.natAbs m)).length Xe]) nG (by kernel_rfl) rfl (by simp [Value.oneCell']) rfl rfl rfl rfl rfl rfl (fun Y hY=>trivial) ?_
     intro JZ iD xz
     have bu:=Pl.Ex.xs gG iD (by omega)
     have Fg:=Xs.size iD
     refine aj ?_
     repeat refine af ?_
     refine fU (S:=fun X=>Pl.Ex JZ X) [(true,0,0),(true,1,1),(true,2,3),(true,4,7),(true,5,23),(true,6,55),(false,3,119),(false,7,127),(false,8,255),(true,9,511),(true,10,1023),(true,11,2047),(true,13,4095),(true,14,12287),(false,12,28671),(false,15,32767),(true,16,65535),(true,17,131071),(true,18,262143),(true,19,524287),(true,21,1048575),(false,20,3145727),(false,22,4194303),(true,23,8388607),(true,24,16777215),(true,25,33554431),(true,26,67108863),(true,28,134217727),(false,27,402653183),(false,29,536870911),(false,30,1073741823),(true,31,2147483647),(true,32,4294967295),(true,33,8589934591),(true,34,17179869183),(true,36,34359738367),(true,37,103079215103),(false,35,240518168575),(false,38,274877906943),(false,39,549755813887),(true,40,1099511627775),(true,41,2199023255551),(true,42,4398046511103),(true,43,8796093022207),(true,45,17592186044415),(true,46,52776558133247),(false,44,123145302310911),(false,47,140737488355327),(false,48,281474976710655),(true,49,562949953421311),(true,50,1125899906842623),(true,51,2251799813685247),(true,52,4503599627370495),(true,54,9007199254740991),(true,55,27021597764222975),(false,53,63050394783186943),(false,56,72057594037927935),(false,57,144115188075855871),(true,58,288230376151711743),(true,59,576460752303423487),(true,60,1152921504606846975),(true,61,2305843009213693951),(true,63,4611686018427387903),(true,64,13835058055282163711),(false,62,32281802128991715327),(false,65,36893488147419103231),(false,66,73786976294838206463),(true,67,147573952589676412927),(true,68,295147905179352825855),(true,69,590295810358705651711),(true,71,1180591620717411303423),(false,70,3541774862152233910271),(false,72,4722366482869645213695),(false,73,9444732965739290427391),(true,74,18889465931478580854783),(true,75,37778931862957161709567),(true,76,75557863725914323419135),(true,77,151115727451828646838271),(true,78,302231454903657293676543)] fo aR (by kernel_rfl) (yW (Pl.Ex.refl _) (Pl.Ex.drew _)) ?_
     have dN:=Pl.Ex.drew JZ
     generalize JZ.drew=w16 at *
     have acn:=zYz dN
     intro vG
     refine bn (part:=[.bool (decide (m<0)),.slice Xd (limbs (Int.natAbs m)).length Xe]) (fun X hX=>zZz xz hX) rfl Tryz.underlying24 rfl (by kernel_rfl) vG rfl rfl rfl rfl rfl ?_
     refine aG vG rfl ?_
     refine Ec (c:=e9) Tryz.underlying3 (by kernel_rfl) (Oy (by omega) (by omega)) vG rfl rfl rfl rfl rfl ?_
     refine bn (part:=[.bool (decide (m<0)),.slice Xd (limbs (Int.natAbs m)).length Xe]) (fun X hX=>zZz xz hX) rfl Tryz.underlying24 rfl (by kernel_rfl) vG rfl rfl rfl rfl rfl ?_
     refine aG vG rfl ?_
     refine Ec (c:=e9) Tryz.underlying3 (by kernel_rfl) (Oy (by omega) (by omega)) vG rfl rfl rfl rfl rfl ?_
     refine ay rfl rfl rfl rfl rfl (fun u X=>enters Tryz.func18 (by kernel_rfl) rfl u X) ?_
     refine Calls.mono (dD _ (hg.ext (yW hE1 (yW hE2 (yW aJ (yW aP (yW aW (yW bO (yW cB (yW iX (yW bG (yW aT (yW bu dN)))))))))))) _ m e9 (Zn.of (Un.below u23 (yW bu dN))) 10 lm (by decide) (by omega) (-32768) 33087 (by omega) (by omega) (by decide) (by decide)) ?_
     rintro e w17 ⟨v25,rfl,hv25,dR⟩
     obtain ⟨m26,e27,A28,c29,rfl,u30,J2⟩:=hv25
     have aco:=J2.lo
     have acp:=J2.hi
     have acr:=zYz dR
     have PY:=yW vG dR
     refine ⟨_,rfl,PY,?_⟩
     refine ay rfl rfl rfl rfl rfl (fun u X=>enters Tryz.func19 (by kernel_rfl) rfl u X) ?_
     refine Calls.mono (jh _ _ m e9 (Zn.of (Un.below u23 (yW bu (yW dN dR)))) 10 lm (by omega) (by omega) (-32768) 33087 (by omega) (by omega) (by omega) (by omega)) ?_
     rintro e w18 ⟨v32,rfl,hv32,dS⟩
     obtain ⟨m33,e34,A35,c36,rfl,u37,J3⟩:=hv32
     have acs:=J3.lo
     have acu:=J3.hi
     have acv:=zYz dS
     have PZ:=yW PY dS
     refine ⟨_,rfl,PZ,?_⟩
     refine ay rfl rfl rfl rfl rfl (fun u X=>enters Tryz.func17 (by kernel_rfl) rfl u X) ?_
     refine Calls.mono (aS _ _ _ (Dy.dv m e9) (Dy.dv m e9) _ _ _ _ _ _ (Dn.mk (Un.below u30 dS) J2.can J2.val J2.sz J2.lo J2.hi) (Dn.mk u37 J3.can J3.val J3.sz J3.lo J3.hi) (by decide) (by decide)) ?_
     rintro e w19 ⟨rfl,dV⟩
     rw [decide_eq_true (show (Dy.dv m e9)=(Dy.dv m e9) from rfl)]
     have acw:=zYz dV
     have vH:=yW PZ dV
     refine ⟨_,rfl,vH,?_⟩
     refine aG vH rfl ?_
     refine bn (part:=[.bool (decide (m5<0)),.slice A7 (limbs (Int.natAbs m5)).length c8,.int .i64 e6]) (fun X hX=>zZz (zZz dz (yW aT bu)) hX) rfl Tryz.underlying26 rfl (by kernel_rfl) vH rfl rfl rfl rfl rfl ?_
     refine bn (part:=[.bool (decide (m12<0)),.slice rD (limbs (Int.natAbs m12)).length c15,.int .i64 e13]) (fun X hX=>zZz (zZz gy (yW aT bu)) hX) rfl Tryz.underlying26 rfl (by kernel_rfl) vH rfl rfl rfl rfl rfl ?_
     refine bn (part:=[.bool (decide (m5<0)),.slice A7 (limbs (Int.natAbs m5)).length c8,.int .i64 e6]) (fun X hX=>zZz (zZz dz (yW aT bu)) hX) rfl Tryz.underlying26 rfl (by kernel_rfl) vH rfl rfl rfl rfl rfl ?_
     refine bn (part:=[.bool (decide (m12<0)),.slice rD (limbs (Int.natAbs m12)).length c15,.int .i64 e13]) (fun X hX=>zZz (zZz gy (yW aT bu)) hX) rfl Tryz.underlying26 rfl (by kernel_rfl) vH rfl rfl rfl rfl rfl ?_
     refine ay rfl rfl rfl rfl rfl (fun u X=>enters Tryz.func20 (by kernel_rfl) rfl u X) ?_
     refine Calls.mono (vI _ (hg.ext (yW hE1 (yW hE2 (yW aJ (yW aP (yW aW (yW bO (yW cB (yW iX (yW bG (yW aT (yW bu (yW dN (yW dR (yW dS dV))))))))))))))) _ _ x y 10 23 (-200) 520 (Dn.le (Dn.mk (Un.below u9 (yW bG (yW aT (yW bu (yW dN (yW dR (yW dS dV))))))) dw.can dw.val dw.sz dw.lo dw.hi) (by decide) (by decide) (by decide)) (Dn.le (Dn.mk (Un.below u16 (yW bG (yW aT (yW bu (yW dN (yW dR (yW dS dV))))))) fT.can fT.val fT.sz fT.lo fT.hi) (by decide) (by decide) (by decide)) (by decide) (by decide) (by decide) (by decide) (-201) 1608 (by decide) (by decide) (by decide) (by decide)) ?_
     rintro e w20 ⟨Zz,rfl,J4,hE20⟩
     have acy:=(show -1≤Zz∧Zz≤1 from ⟨J4.1,J4.2.1⟩)
     have acz:=zYz hE20
     have P5:=yW vH hE20
     refine ⟨_,rfl,P5,?_⟩
     refine ay rfl rfl rfl rfl rfl (fun u X=>enters Tryz.func21 (by kernel_rfl) rfl u X) ?_
     refine Calls.mono (zn _ _ _ x y 10 17 (-200) 520 (Dn.le (Dn.mk (Un.below u9 (yW bG (yW aT (yW bu (yW dN (yW dR (yW dS (yW dV hE20)))))))) dw.can dw.val dw.sz dw.lo dw.hi) (by decide) (by decide) (by decide):Dn _ _ _ 10 (-200) 520) (Dn.le (Dn.mk (Un.below u16 (yW bG (yW aT (yW bu (yW dN (yW dR (yW dS (yW dV hE20)))))))) fT.can fT.val fT.sz fT.lo fT.hi) (by decide) (by decide) (by decide):Dn _ _ _ 10 (-200) 520) (by decide) (by decide) (by decide) (by decide)) ?_
     rintro e w21 ⟨ZA,rfl,J5,fH⟩
     have acA:=(show -1≤ZA∧ZA≤1 from ⟨J5.1,J5.2.1⟩)
     have acB:=zYz fH
     have yJ:=yW P5 fH
     refine ⟨_,rfl,yJ,?_⟩
     refine bP (v:=.bool true) (fun X=>ed (ET.uniq J4 J5) X) yJ rfl rfl rfl rfl rfl rfl ?_
     refine aG yJ rfl ?_
     refine bn (part:=[.bool (decide (m5<0)),.slice A7 (limbs (Int.natAbs m5)).length c8,.int .i64 e6]) (fun X hX=>zZz (zZz dz (yW aT bu)) hX) rfl Tryz.underlying26 rfl (by kernel_rfl) yJ rfl rfl rfl rfl rfl ?_
     refine bn (part:=[.bool (decide (m5<0)),.slice A7 (limbs (Int.natAbs m5)).length c8,.int .i64 e6]) (fun X hX=>zZz (zZz dz (yW aT bu)) hX) rfl Tryz.underlying26 rfl (by kernel_rfl) yJ rfl rfl rfl rfl rfl ?_
     refine ay rfl rfl rfl rfl rfl (fun u X=>enters Tryz.func22 (by kernel_rfl) rfl u X) ?_
     refine Calls.mono (iY _ _ x _ _ _ (Dn.mk (Un.below u9 (yW bG (yW aT (yW bu (yW dN (yW dR (yW dS (yW dV (yW hE20 fH))))))))) dw.can dw.val dw.sz dw.lo dw.hi)) ?_
     rintro e w22 ⟨ZB,rfl,J6,fQ⟩
     have acC:=(show -1≤ZB∧ZB≤1 from ⟨J6.1,J6.2.1⟩)
     have acD:=zYz fQ
     have P6:=yW yJ fQ
     refine ⟨_,rfl,P6,?_⟩
     refine ay rfl rfl rfl rfl rfl (fun u X=>enters Tryz.func23 (by kernel_rfl) rfl u X) ?_
     refine Calls.mono (xx _ _ x _ _ _ (Dn.mk (Un.below u9 (yW bG (yW aT (yW bu (yW dN (yW dR (yW dS (yW dV (yW hE20 (yW fH fQ)))))))))) dw.can dw.val dw.sz dw.lo dw.hi) (by decide)) ?_
     rintro e w23 ⟨ZC,rfl,J7,fZ⟩
     have acE:=(show -1≤ZC∧ZC≤1 from ⟨J7.1,J7.2.1⟩)
     have acF:=zYz fZ
     have yK:=yW P6 fZ
     refine ⟨_,rfl,yK,?_⟩
     refine bP (v:=.bool true) (fun X=>ed (EP.uniq J6 J7) X) yK rfl rfl rfl rfl rfl rfl ?_
     refine aG yK rfl ?_
     refine bn (part:=[.bool (decide (m5<0)),.slice A7 (limbs (Int.natAbs m5)).length c8,.int .i64 e6]) (fun X hX=>zZz (zZz dz (yW aT bu)) hX) rfl Tryz.underlying26 rfl (by kernel_rfl) yK rfl rfl rfl rfl rfl ?_
     refine bn (part:=[.bool (decide (m5<0)),.slice A7 (limbs (Int.natAbs m5)).length c8,.int .i64 e6]) (fun X hX=>zZz (zZz dz (yW aT bu)) hX) rfl Tryz.underlying26 rfl (by kernel_rfl) yK rfl rfl rfl rfl rfl ?_
     refine ay rfl rfl rfl rfl rfl (fun u X=>enters Tryz.func24 (by kernel_rfl) rfl u X) ?_
     refine Calls.mono (vF _ _ x _ _ _ (Dn.mk (Un.below u9 (yW bG (yW aT (yW bu (yW dN (yW dR (yW dS (yW dV (yW hE20 (yW fH (yW fQ fZ))))))))))) dw.can dw.val dw.sz dw.lo dw.hi)) ?_
     rintro e w24 ⟨v43,rfl,Xg,gB⟩
     obtain ⟨m44,e45,A46,c47,rfl,u48,J8⟩:=Xg
     have acG:=J8.lo
     have acH:=J8.hi
     have acI:=zYz gB
     have P7:=yW yK gB
     refine ⟨_,rfl,P7,?_⟩
     refine ay rfl rfl rfl rfl rfl (fun u X=>enters Tryz.func25 (by kernel_rfl) rfl u X) ?_
     refine Calls.mono (zo _ _ x _ _ _ (Dn.mk (Un.below u9 (yW bG (yW aT (yW bu (yW dN (yW dR (yW dS (yW dV (yW hE20 (yW fH (yW fQ (yW fZ gB)))))))))))) dw.can dw.val dw.sz dw.lo dw.hi) (by decide)) ?_
     rintro e w25 ⟨v50,rfl,Xh,gD⟩
     obtain ⟨m51,e52,A53,c54,rfl,u55,J9⟩:=Xh
     have acJ:=J9.lo
     have acK:=J9.hi
     have acL:=zYz gD
     have P8:=yW P7 gD
     refine ⟨_,rfl,P8,?_⟩
     refine ay rfl rfl rfl rfl rfl (fun u X=>enters Tryz.func17 (by kernel_rfl) rfl u X) ?_
     refine Calls.mono (aS _ _ _ (-x) (-x) _ _ _ _ _ _ (Dn.mk (Un.below u48 gD) J8.can J8.val J8.sz J8.lo J8.hi) (Dn.mk u55 J9.can J9.val J9.sz J9.lo J9.hi) (by decide) (by decide)) ?_
     rintro e w26 ⟨rfl,gK⟩
     rw [decide_eq_true (show (-x)=(-x) from rfl)]
     have acM:=zYz gK
     have vJ:=yW P8 gK
     refine ⟨_,rfl,vJ,?_⟩
     refine aG vJ rfl ?_
     refine bn (part:=[.bool (decide (m5<0)),.slice A7 (limbs (Int.natAbs m5)).length c8,.int .i64 e6]) (fun X hX=>zZz (zZz dz (yW aT bu)) hX) rfl Tryz.underlying26 rfl (by kernel_rfl) vJ rfl rfl rfl rfl rfl ?_
     refine bn (part:=[.bool (decide (m12<0)),.slice rD (limbs (Int.natAbs m12)).length c15,.int .i64 e13]) (fun X hX=>zZz (zZz gy (yW aT bu)) hX) rfl Tryz.underlying26 rfl (by kernel_rfl) vJ rfl rfl rfl rfl rfl ?_
     refine bn (part:=[.bool (decide (m5<0)),.slice A7 (limbs (Int.natAbs m5)).length c8,.int .i64 e6]) (fun X hX=>zZz (zZz dz (yW aT bu)) hX) rfl Tryz.underlying26 rfl (by kernel_rfl) vJ rfl rfl rfl rfl rfl ?_
     refine bn (part:=[.bool (decide (m12<0)),.slice rD (limbs (Int.natAbs m12)).length c15,.int .i64 e13]) (fun X hX=>zZz (zZz gy (yW aT bu)) hX) rfl Tryz.underlying26 rfl (by kernel_rfl) vJ rfl rfl rfl rfl rfl ?_
     refine ay rfl rfl rfl rfl rfl (fun u X=>enters Tryz.func26 (by kernel_rfl) rfl u X) ?_
     refine Calls.mono (qO _ (hg.ext (yW hE1 (yW hE2 (yW aJ (yW aP (yW aW (yW bO (yW cB (yW iX (yW bG (yW aT (yW bu (yW dN (yW dR (yW dS (yW dV (yW hE20 (yW fH (yW fQ (yW fZ (yW gB (yW gD gK)))))))))))))))))))))) _ _ x y 10 23 (-200) 520 (Dn.le (Dn.mk (Un.below u9 (yW bG (yW aT (yW bu (yW dN (yW dR (yW dS (yW dV (yW hE20 (yW fH (yW fQ (yW fZ (yW gB (yW gD gK)))))))))))))) dw.can dw.val dw.sz dw.lo dw.hi) (by decide) (by decide) (by decide)) (Dn.le (Dn.mk (Un.below u16 (yW bG (yW aT (yW bu (yW dN (yW dR (yW dS (yW dV (yW hE20 (yW fH (yW fQ (yW fZ (yW gB (yW gD gK)))))))))))))) fT.can fT.val fT.sz fT.lo fT.hi) (by decide) (by decide) (by decide)) (by decide) (by decide) (by decide) (by decide) (-201) 1608 (by decide) (by decide) (by decide) (by decide)) ?_
     rintro e w27 ⟨v57,rfl,Xi,iy⟩
     obtain ⟨m58,e59,A60,c61,rfl,u62,Ka⟩:=Xi
     have acO:=Ka.lo
     have acP:=Ka.hi
     have acQ:=zYz iy
     have P9:=yW vJ iy
     refine ⟨_,rfl,P9,?_⟩
     refine ay rfl rfl rfl rfl rfl (fun u X=>enters Tryz.func27 (by kernel_rfl) rfl u X) ?_
     refine Calls.mono (zh _ _ _ x y 10 17 (-200) 520 (Dn.le (Dn.mk (Un.below u9 (yW bG (yW aT (yW bu (yW dN (yW dR (yW dS (yW dV (yW hE20 (yW fH (yW fQ (yW fZ (yW gB (yW gD (yW gK iy))))))))))))))) dw.can dw.val dw.sz dw.lo dw.hi) (by decide) (by decide) (by decide):Dn _ _ _ 10 (-200) 520) (Dn.le (Dn.mk (Un.below u16 (yW bG (yW aT (yW bu (yW dN (yW dR (yW dS (yW dV (yW hE20 (yW fH (yW fQ (yW fZ (yW gB (yW gD (yW gK iy))))))))))))))) fT.can fT.val fT.sz fT.lo fT.hi) (by decide) (by decide) (by decide):Dn _ _ _ 10 (-200) 520) (by decide) (by decide) (by decide) 48 38 (by decide) (by decide) (by decide) (by decide) (-1216) 1536 (by decide) (by decide)) ?_
     rintro e w28 ⟨v64,rfl,hv64,iH⟩
     obtain ⟨m65,e66,A67,c68,rfl,u69,Kb⟩:=hv64
     have acR:=Kb.lo
     have acS:=Kb.hi
     have acT:=zYz iH
     have Qa:=yW P9 iH
     refine ⟨_,rfl,Qa,?_⟩
     refine ay rfl rfl rfl rfl rfl (fun u X=>enters Tryz.func17 (by kernel_rfl) rfl u X) ?_
     refine Calls.mono (aS _ _ _ (x+y) (x+y) _ _ _ _ _ _ (Dn.mk (Un.below u62 iH) Ka.can Ka.val Ka.sz Ka.lo Ka.hi) (Dn.mk u69 Kb.can Kb.val Kb.sz Kb.lo Kb.hi) (by decide) (by decide)) ?_
     rintro e w29 ⟨rfl,iR⟩
     rw [decide_eq_true (show (x+y)=(x+y) from rfl)]
     have acU:=zYz iR
     have vK:=yW Qa iR
     refine ⟨_,rfl,vK,?_⟩
     refine aG vK rfl ?_
     refine bn (part:=[.bool (decide (m5<0)),.slice A7 (limbs (Int.natAbs m5)).length c8,.int .i64 e6]) (fun X hX=>zZz (zZz dz (yW aT bu)) hX) rfl Tryz.underlying26 rfl (by kernel_rfl) vK rfl rfl rfl rfl rfl ?_
     refine bn (part:=[.bool (decide (m12<0)),.slice rD (limbs (Int.natAbs m12)).length c15,.int .i64 e13]) (fun X hX=>zZz (zZz gy (yW aT bu)) hX) rfl Tryz.underlying26 rfl (by kernel_rfl) vK rfl rfl rfl rfl rfl ?_
     refine bn (part:=[.bool (decide (m5<0)),.slice A7 (limbs (Int.natAbs m5)).length c8,.int .i64 e6]) (fun X hX=>zZz (zZz dz (yW aT bu)) hX) rfl Tryz.underlying26 rfl (by kernel_rfl) vK rfl rfl rfl rfl rfl ?_
     refine bn (part:=[.bool (decide (m12<0)),.slice rD (limbs (Int.natAbs m12)).length c15,.int .i64 e13]) (fun X hX=>zZz (zZz gy (yW aT bu)) hX) rfl Tryz.underlying26 rfl (by kernel_rfl) vK rfl rfl rfl rfl rfl ?_
     refine ay rfl rfl rfl rfl rfl (fun u X=>enters Tryz.func28 (by kernel_rfl) rfl u X) ?_
     refine Calls.mono (Cc _ (hg.ext (yW hE1 (yW hE2 (yW aJ (yW aP (yW aW (yW bO (yW cB (yW iX (yW bG (yW aT (yW bu (yW dN (yW dR (yW dS (yW dV (yW hE20 (yW fH (yW fQ (yW fZ (yW gB (yW gD (yW gK (yW iy (yW iH iR))))))))))))))))))))))))) _ _ x y 10 23 (-200) 520 (Dn.le (Dn.mk (Un.below u9 (yW bG (yW aT (yW bu (yW dN (yW dR (yW dS (yW dV (yW hE20 (yW fH (yW fQ (yW fZ (yW gB (yW gD (yW gK (yW iy (yW iH iR))))))))))))))))) dw.can dw.val dw.sz dw.lo dw.hi) (by decide) (by decide) (by decide):Dn _ _ _ 10 (-200) 520) (Dn.le (Dn.mk (Un.below u16 (yW bG (yW aT (yW bu (yW dN (yW dR (yW dS (yW dV (yW hE20 (yW fH (yW fQ (yW fZ (yW gB (yW gD (yW gK (yW iy (yW iH iR))))))))))))))))) fT.can fT.val fT.sz fT.lo fT.hi) (by decide) (by decide) (by decide):Dn _ _ _ 10 (-200) 520) (by decide) (by decide) (by decide) (by decide) (-201) 1608 (by decide) (by decide) (by decide) (by decide)) ?_
     rintro e w30 ⟨v71,rfl,Xj,jJ⟩
     obtain ⟨m72,e73,A74,c75,rfl,u76,Kc⟩:=Xj
     have acW:=Kc.lo
     have acX:=Kc.hi
     have acY:=zYz jJ
     have Qb:=yW vK jJ
     refine ⟨_,rfl,Qb,?_⟩
     refine ay rfl rfl rfl rfl rfl (fun u X=>enters Tryz.func29 (by kernel_rfl) rfl u X) ?_
     refine Calls.mono (zi _ _ _ x y 10 17 (-200) 520 (Dn.le (Dn.mk (Un.below u9 (yW bG (yW aT (yW bu (yW dN (yW dR (yW dS (yW dV (yW hE20 (yW fH (yW fQ (yW fZ (yW gB (yW gD (yW gK (yW iy (yW iH (yW iR jJ)))))))))))))))))) dw.can dw.val dw.sz dw.lo dw.hi) (by decide) (by decide) (by decide):Dn _ _ _ 10 (-200) 520) (Dn.le (Dn.mk (Un.below u16 (yW bG (yW aT (yW bu (yW dN (yW dR (yW dS (yW dV (yW hE20 (yW fH (yW fQ (yW fZ (yW gB (yW gD (yW gK (yW iy (yW iH (yW iR jJ)))))))))))))))))) fT.can fT.val fT.sz fT.lo fT.hi) (by decide) (by decide) (by decide):Dn _ _ _ 10 (-200) 520) (by decide) (by decide) (by decide) 48 38 (by decide) (by decide) (by decide) (by decide) (-1216) 1536 (by decide) (by decide)) ?_
     rintro e w31 ⟨v78,rfl,Xk,jP⟩
     obtain ⟨m79,e80,A81,c82,rfl,u83,Ke⟩:=Xk
     have ac0:=Ke.lo
     have ac1:=Ke.hi
     have ac2:=zYz jP
     have Qc:=yW Qb jP
     refine ⟨_,rfl,Qc,?_⟩
     refine ay rfl rfl rfl rfl rfl (fun u X=>enters Tryz.func17 (by kernel_rfl) rfl u X) ?_
     refine Calls.mono (aS _ _ _ (x-y) (x-y) _ _ _ _ _ _ (Dn.mk (Un.below u76 jP) Kc.can Kc.val Kc.sz Kc.lo Kc.hi) (Dn.mk u83 Ke.can Ke.val Ke.sz Ke.lo Ke.hi) (by decide) (by decide)) ?_
     rintro e w32 ⟨rfl,kG⟩
     rw [decide_eq_true (show (x-y)=(x-y) from rfl)]
     have ac3:=zYz kG
     have nS:=yW Qc kG
     refine ⟨_,rfl,nS,?_⟩
     refine aG nS rfl ?_
     refine bn (part:=[.bool (decide (m5<0)),.slice A7 (limbs (Int.natAbs m5)).length c8,.int .i64 e6]) (fun X hX=>zZz (zZz dz (yW aT bu)) hX) rfl Tryz.underlying26 rfl (by kernel_rfl) nS rfl rfl rfl rfl rfl ?_
     refine bn (part:=[.bool (decide (m12<0)),.slice rD (limbs (Int.natAbs m12)).length c15,.int .i64 e13]) (fun X hX=>zZz (zZz gy (yW aT bu)) hX) rfl Tryz.underlying26 rfl (by kernel_rfl) nS rfl rfl rfl rfl rfl ?_
     refine bn (part:=[.bool (decide (m5<0)),.slice A7 (limbs (Int.natAbs m5)).length c8,.int .i64 e6]) (fun X hX=>zZz (zZz dz (yW aT bu)) hX) rfl Tryz.underlying26 rfl (by kernel_rfl) nS rfl rfl rfl rfl rfl ?_
     refine bn (part:=[.bool (decide (m12<0)),.slice rD (limbs (Int.natAbs m12)).length c15,.int .i64 e13]) (fun X hX=>zZz (zZz gy (yW aT bu)) hX) rfl Tryz.underlying26 rfl (by kernel_rfl) nS rfl rfl rfl rfl rfl ?_
     refine ay rfl rfl rfl rfl rfl (fun u X=>enters Tryz.func30 (by kernel_rfl) rfl u X) ?_
     refine Calls.mono (Ce _ (hg.ext (yW hE1 (yW hE2 (yW aJ (yW aP (yW aW (yW bO (yW cB (yW iX (yW bG (yW aT (yW bu (yW dN (yW dR (yW dS (yW dV (yW hE20 (yW fH (yW fQ (yW fZ (yW gB (yW gD (yW gK (yW iy (yW iH (yW iR (yW jJ (yW jP kG)))))))))))))))))))))))))))) _ _ x y 10 10 (-200) 520 (Dn.le (Dn.mk (Un.below u9 (yW bG (yW aT (yW bu (yW dN (yW dR (yW dS (yW dV (yW hE20 (yW fH (yW fQ (yW fZ (yW gB (yW gD (yW gK (yW iy (yW iH (yW iR (yW jJ (yW jP kG)))))))))))))))))))) dw.can dw.val dw.sz dw.lo dw.hi) (by decide) (by decide) (by decide):Dn _ _ _ 10 (-200) 520) (Dn.le (Dn.mk (Un.below u16 (yW bG (yW aT (yW bu (yW dN (yW dR (yW dS (yW dV (yW hE20 (yW fH (yW fQ (yW fZ (yW gB (yW gD (yW gK (yW iy (yW iH (yW iR (yW jJ (yW jP kG)))))))))))))))))))) fT.can fT.val fT.sz fT.lo fT.hi) (by decide) (by decide) (by decide):Dn _ _ _ 10 (-200) 520) (by decide) (by decide) (by decide) (by decide) (-400) 1680 (by decide) (by decide) (by decide) (by decide)) ?_
     rintro e w33 ⟨v85,rfl,Xl,mR⟩
     obtain ⟨m86,e87,A88,c89,rfl,u90,Kg⟩:=Xl
     have ac5:=Kg.lo
     have ac6:=Kg.hi
     have ac7:=zYz mR
     have Qd:=yW nS mR
     refine ⟨_,rfl,Qd,?_⟩
     refine ay rfl rfl rfl rfl rfl (fun u X=>enters Tryz.func31 (by kernel_rfl) rfl u X) ?_
     refine Calls.mono (zk _ _ _ x y 10 17 (-200) 520 (Dn.le (Dn.mk (Un.below u9 (yW bG (yW aT (yW bu (yW dN (yW dR (yW dS (yW dV (yW hE20 (yW fH (yW fQ (yW fZ (yW gB (yW gD (yW gK (yW iy (yW iH (yW iR (yW jJ (yW jP (yW kG mR))))))))))))))))))))) dw.can dw.val dw.sz dw.lo dw.hi) (by decide) (by decide) (by decide):Dn _ _ _ 10 (-200) 520) (Dn.le (Dn.mk (Un.below u16 (yW bG (yW aT (yW bu (yW dN (yW dR (yW dS (yW dV (yW hE20 (yW fH (yW fQ (yW fZ (yW gB (yW gD (yW gK (yW iy (yW iH (yW iR (yW jJ (yW jP (yW kG mR))))))))))))))))))))) fT.can fT.val fT.sz fT.lo fT.hi) (by decide) (by decide) (by decide):Dn _ _ _ 10 (-200) 520) (by decide) (by decide) (by decide) 56 38 (by decide) (by decide) (by decide) (by decide) (-1216) 1792 (by decide) (by decide)) ?_
     rintro e w34 ⟨v92,rfl,Xm,oz⟩
     obtain ⟨m93,e94,A95,c96,rfl,u97,Kh⟩:=Xm
     have ac9:=Kh.lo
     have ac':=Kh.hi
     have ada:=zYz oz
     have Qe:=yW Qd oz
     refine ⟨_,rfl,Qe,?_⟩
     refine ay rfl rfl rfl rfl rfl (fun u X=>enters Tryz.func17 (by kernel_rfl) rfl u X) ?_
     refine Calls.mono (aS _ _ _ (x*y) (x*y) _ _ _ _ _ _ (Dn.mk (Un.below u90 oz) Kg.can Kg.val Kg.sz Kg.lo Kg.hi) (Dn.mk u97 Kh.can Kh.val Kh.sz Kh.lo Kh.hi) (by decide) (by decide)) ?_
     rintro e w35 ⟨rfl,pO⟩
     rw [decide_eq_true (show (x*y)=(x*y) from rfl)]
     have adb:=zYz pO
     have vL:=yW Qe pO
     refine ⟨_,rfl,vL,?_⟩
     refine aG vL rfl ?_
     refine bn (part:=[.bool (decide (m5<0)),.slice A7 (limbs (Int.natAbs m5)).length c8,.int .i64 e6]) (fun X hX=>zZz (zZz dz (yW aT bu)) hX) rfl Tryz.underlying26 rfl (by kernel_rfl) vL rfl rfl rfl rfl rfl ?_
     refine bn (part:=[.bool (decide (m12<0)),.slice rD (limbs (Int.natAbs m12)).length c15,.int .i64 e13]) (fun X hX=>zZz (zZz gy (yW aT bu)) hX) rfl Tryz.underlying26 rfl (by kernel_rfl) vL rfl rfl rfl rfl rfl ?_
     refine bn (part:=[.bool (decide (m5<0)),.slice A7 (limbs (Int.natAbs m5)).length c8,.int .i64 e6]) (fun X hX=>zZz (zZz dz (yW aT bu)) hX) rfl Tryz.underlying26 rfl (by kernel_rfl) vL rfl rfl rfl rfl rfl ?_
     refine bn (part:=[.bool (decide (m12<0)),.slice rD (limbs (Int.natAbs m12)).length c15,.int .i64 e13]) (fun X hX=>zZz (zZz gy (yW aT bu)) hX) rfl Tryz.underlying26 rfl (by kernel_rfl) vL rfl rfl rfl rfl rfl ?_
     refine ay rfl rfl rfl rfl rfl (fun u X=>enters Tryz.func32 (by kernel_rfl) rfl u X) ?_
     refine Calls.mono (vM _ (hg.ext (yW hE1 (yW hE2 (yW aJ (yW aP (yW aW (yW bO (yW cB (yW iX (yW bG (yW aT (yW bu (yW dN (yW dR (yW dS (yW dV (yW hE20 (yW fH (yW fQ (yW fZ (yW gB (yW gD (yW gK (yW iy (yW iH (yW iR (yW jJ (yW jP (yW kG (yW mR (yW oz pO))))))))))))))))))))))))))))))) _ _ x y 10 23 (-200) 520 (Dn.le (Dn.mk (Un.below u9 (yW bG (yW aT (yW bu (yW dN (yW dR (yW dS (yW dV (yW hE20 (yW fH (yW fQ (yW fZ (yW gB (yW gD (yW gK (yW iy (yW iH (yW iR (yW jJ (yW jP (yW kG (yW mR (yW oz pO))))))))))))))))))))))) dw.can dw.val dw.sz dw.lo dw.hi) (by decide) (by decide) (by decide)) (Dn.le (Dn.mk (Un.below u16 (yW bG (yW aT (yW bu (yW dN (yW dR (yW dS (yW dV (yW hE20 (yW fH (yW fQ (yW fZ (yW gB (yW gD (yW gK (yW iy (yW iH (yW iR (yW jJ (yW jP (yW kG (yW mR (yW oz pO))))))))))))))))))))))) fT.can fT.val fT.sz fT.lo fT.hi) (by decide) (by decide) (by decide)) (by decide) (by decide) (by decide) (by decide) (-201) 1608 (by decide) (by decide) (by decide) (by decide)) ?_
     rintro e w36 ⟨v99,rfl,hv99,vN⟩
     obtain ⟨ade,adf,adg,adh,rfl,Xn,vO⟩:=hv99
     have ZE:=vO.lo
     have ZF:=vO.hi
     have adi:=zYz vN
     have Qf:=yW vL vN
     refine ⟨_,rfl,Qf,?_⟩
     refine ay rfl rfl rfl rfl rfl (fun u X=>enters Tryz.func33 (by kernel_rfl) rfl u X) ?_
     refine Calls.mono (zm _ _ _ x y 10 17 (-200) 520 (Dn.le (Dn.mk (Un.below u9 (yW bG (yW aT (yW bu (yW dN (yW dR (yW dS (yW dV (yW hE20 (yW fH (yW fQ (yW fZ (yW gB (yW gD (yW gK (yW iy (yW iH (yW iR (yW jJ (yW jP (yW kG (yW mR (yW oz (yW pO vN)))))))))))))))))))))))) dw.can dw.val dw.sz dw.lo dw.hi) (by decide) (by decide) (by decide):Dn _ _ _ 10 (-200) 520) (Dn.le (Dn.mk (Un.below u16 (yW bG (yW aT (yW bu (yW dN (yW dR (yW dS (yW dV (yW hE20 (yW fH (yW fQ (yW fZ (yW gB (yW gD (yW gK (yW iy (yW iH (yW iR (yW jJ (yW jP (yW kG (yW mR (yW oz (yW pO vN)))))))))))))))))))))))) fT.can fT.val fT.sz fT.lo fT.hi) (by decide) (by decide) (by decide):Dn _ _ _ 10 (-200) 520) (by decide) (by decide) (by decide) 50 40 (by decide) (by decide) (by decide) (by decide) (-1280) 1600 (by decide) (by decide)) ?_
     rintro e w37 ⟨adj,rfl,Qg,yL⟩
     obtain ⟨adk,e108,adl,adm,rfl,Xo,vP⟩:=Qg
     have ZG:=vP.lo
     have ZH:=vP.hi
     have adn:=zYz yL
     have Qh:=yW Qf yL
     refine ⟨_,rfl,Qh,?_⟩
     refine ay rfl rfl rfl rfl rfl (fun u X=>enters Tryz.func17 (by kernel_rfl) rfl u X) ?_
     refine Calls.mono (aS _ _ _ ((x+y)/2) ((x+y)/2) _ _ _ _ _ _ (Dn.mk (Un.below Xn yL) vO.can vO.val vO.sz vO.lo vO.hi) (Dn.mk Xo vP.can vP.val vP.sz vP.lo vP.hi) (by decide) (by decide)) ?_
     rintro e w38 ⟨rfl,Cg⟩
     rw [decide_eq_true (show ((x+y)/2)=((x+y)/2) from rfl)]
     have ado:=zYz Cg
     have Ch:=yW Qh Cg
     refine ⟨_,rfl,Ch,?_⟩
     refine aG Ch rfl ?_
     refine bn (part:=[.bool (decide (m5<0)),.slice A7 (limbs (Int.natAbs m5)).length c8,.int .i64 e6]) (fun X hX=>zZz (zZz dz (yW aT bu)) hX) rfl Tryz.underlying26 rfl (by kernel_rfl) Ch rfl rfl rfl rfl rfl ?_
     refine bn (part:=[.bool (decide (m5<0)),.slice A7 (limbs (Int.natAbs m5)).length c8,.int .i64 e6]) (fun X hX=>zZz (zZz dz (yW aT bu)) hX) rfl Tryz.underlying26 rfl (by kernel_rfl) Ch rfl rfl rfl rfl rfl ?_
     refine ay rfl rfl rfl rfl rfl (fun u X=>enters Tryz.func35 (by kernel_rfl) rfl u X) ?_
     refine Calls.mono (vQ _ _ x 10 17 7 _ _ (Dn.mk (Un.below u9 (yW bG (yW aT (yW bu (yW dN (yW dR (yW dS (yW dV (yW hE20 (yW fH (yW fQ (yW fZ (yW gB (yW gD (yW gK (yW iy (yW iH (yW iR (yW jJ (yW jP (yW kG (yW mR (yW oz (yW pO (yW vN (yW yL Cg)))))))))))))))))))))))))) dw.can dw.val dw.sz dw.lo dw.hi) (by decide) (by decide) (by decide) (by decide) (by decide) (by decide)) ?_
     rintro e w39 ⟨adp,rfl,hv113,Fh⟩
     obtain ⟨adq,adr,ads,c117,rfl,Xp,u119,Qi,Qj⟩:=hv113
     have adt:=zYz Fh
     have Qk:=yW Ch Fh
     refine ⟨_,rfl,Qk,?_⟩
     refine ay rfl rfl rfl rfl rfl (fun u X=>enters Tryz.func36 (by kernel_rfl) rfl u X) ?_
     refine Calls.mono (bY _ _ x 10 17 _ _ (Dn.mk (Un.below u9 (yW bG (yW aT (yW bu (yW dN (yW dR (yW dS (yW dV (yW hE20 (yW fH (yW fQ (yW fZ (yW gB (yW gD (yW gK (yW iy (yW iH (yW iR (yW jJ (yW jP (yW kG (yW mR (yW oz (yW pO (yW vN (yW yL (yW Cg Fh))))))))))))))))))))))))))) dw.can dw.val dw.sz dw.lo dw.hi) (by omega) (by omega) (by omega) (by omega)) ?_
     rintro e w40 ⟨adu,rfl,Ql,Ci⟩
     obtain ⟨adv,adw,adx,ady,rfl,Xq,u127,Qm,Qo⟩:=Ql
     have adz:=zYz Ci
     have Qp:=yW Qk Ci
     refine ⟨_,rfl,Qp,?_⟩
     refine ay rfl rfl rfl rfl rfl (fun u X=>enters Tryz.func34 (by kernel_rfl) rfl u X) ?_
     refine Calls.mono (sQ _ _ _ x x 27 7 28 19 (Qn.mk (Un.below Xp Ci) (Un.below u119 Ci) Qi Qj) (Qn.mk Xq u127 Qm Qo) (by omega) (by omega) (by omega) (by omega)) ?_
     rintro e w41 ⟨rfl,Ki⟩
     rw [decide_eq_true (show x=x from rfl)]
     have adA:=zYz Ki
     have Qq:=yW Qp Ki
     refine ⟨_,rfl,Qq,?_⟩
     refine aG Qq rfl ?_
     refine aj ?_
     repeat refine af ?_
     exact aZ rfl rfl  (⟨rfl,(yW hE1 (yW hE2 (yW aJ (yW aP (yW aW (yW bO (yW cB (yW iX (yW bG (yW aT (yW bu (yW dN (yW dR (yW dS (yW dV (yW hE20 (yW fH (yW fQ (yW fZ (yW gB (yW gD (yW gK (yW iy (yW iH (yW iR (yW jJ (yW jP (yW kG (yW mR (yW oz (yW pO (yW vN (yW yL (yW Cg (yW Fh (yW Ci Ki))))))))))))))))))))))))))))))))))))⟩)
 · repeat refine af ?_
   refine uj (S:=fun X=>Pl.Ex w3 X) fo (yW (Pl.Ex.refl _) (Pl.Ex.drew _)) ?_
   have aP:=Pl.Ex.drew w3
   generalize w3.drew=w4 at *
   have kY:=zYz aP
   intro fJ
   refine jk [(true,0,0),(true,1,1),(true,2,3),(true,4,7),(true,5,23),(true,6,55),(true,7,119),(true,8,247),(true,9,503),(true,10,1015),(true,11,2039),(true,12,4087),(true,15,8183),(true,16,40951)] 106487 6 aR (by kernel_rfl) (by kernel_rfl) (by kernel_rfl) ?_
   refine aL (.pointer (some ⟨N1,0,none⟩)) fJ rfl rfl rfl rfl (fun X=>by kernel_rfl) ?_
   refine aL (.pointer (some ⟨N1,0,none⟩)) fJ rfl rfl rfl rfl (fun X=>by kernel_rfl) ?_
   refine iB (v:=.bool bx0) Tryz.underlying4 rfl (fun X hX=>Pl.Cb.at (j:=0) (zZz (zZz ak (yW hE2 aJ)) hX) rfl) fJ rfl rfl rfl rfl rfl ?_
   refine aL (.pointer (some ⟨N1,0,none⟩)) fJ rfl rfl rfl rfl (fun X=>by kernel_rfl) ?_
   refine aL (.pointer (some ⟨N1,1,none⟩)) fJ rfl rfl rfl rfl (fun X=>by kernel_rfl) ?_
   refine iB (v:=.slice Ax iQ.length cx) Tryz.underlying22 rfl (fun X hX=>Pl.Cb.at (j:=1) (zZz (zZz ak (yW hE2 aJ)) hX) rfl) fJ rfl rfl rfl rfl rfl ?_
   refine aL (.pointer (some ⟨N1,0,none⟩)) fJ rfl rfl rfl rfl (fun X=>by kernel_rfl) ?_
   refine aL (.pointer (some ⟨N1,1,none⟩)) fJ rfl rfl rfl rfl (fun X=>by kernel_rfl) ?_
   refine iB (v:=.slice Ax iQ.length cx) Tryz.underlying22 rfl (fun X hX=>Pl.Cb.at (j:=1) (zZz (zZz ak (yW hE2 aJ)) hX) rfl) fJ rfl rfl rfl rfl rfl ?_
   refine su Tryz.underlying22 fJ rfl rfl rfl rfl rfl ?_
   refine Zq (k:=.i64) (a:=iQ.length) (b:=20) (c:=(min iQ.length 20)) rfl fJ rfl rfl rfl rfl rfl rfl ?_
   refine Zp (kl:=.i64) (kh:=.i64) (lo':=0) (hi':=(min iQ.length 20)) (s:=1) Tryz.underlying22 (by kernel_rfl) (.inl ⟨rfl,rfl⟩) (.inr ⟨_,_,rfl,rfl,rfl⟩) (by omega) (by omega) fJ rfl rfl rfl rfl rfl ?_
   rw [Nw]
   refine aL (.pointer (some ⟨N1,2,none⟩)) fJ rfl rfl rfl rfl (fun X=>by kernel_rfl) ?_
   refine iB (v:=.int .i64 pJ) Tryz.underlying3 rfl (fun X hX=>Pl.Cb.at (j:=2) (zZz (zZz ak (yW hE2 aJ)) hX) rfl) fJ rfl rfl rfl rfl rfl ?_
   refine aj ?_
   refine uP [3,18] 5 (by kernel_rfl) (by kernel_rfl) (by kernel_rfl) (dO ?_ (dO ?_ jU))
   · refine ze (e := 67) (n:=0) [] rfl rfl rfl rfl (by kernel_rfl) (fun Y hY=>yW fJ hY) ?_
     intro N4 w5 aW wQ bV
     have ES:=Pl.Cb.lt bV
     have mI:=zYz aW
     have hS5:=yW fJ aW
     refine aj ?_
     refine uP [13,18] 4 (by kernel_rfl) (by kernel_rfl) (by kernel_rfl) (dO ?_ (dO ?_ jU))
     · refine JX (ys:=iQ.take (min iQ.length 20)) bV (U.take (U.below Gu (yW hE1 (yW hE2 (yW aJ (yW aP aW))))) (k:=min iQ.length 20) (c':=cx) (by omega) (by omega)) (by simp;omega) rfl rfl rfl rfl rfl rfl rfl (fun Y hY=>Pl.Ex.xs hS5 hY (by omega)) ?_
       intro A9 c9 w6 jY u9
       have bO:=Pl.Ex.xs aW jY (by omega)
       have rC:=Xs.size jY
       have kD:=Pl.Ex.xs hS5 jY (by omega)
       refine aj ?_
       refine jk [(true,14,114687),(true,17,131071),(false,18,262143),(false,19,524287)] 1048575 0 aR (by kernel_rfl) (by kernel_rfl) (by kernel_rfl) ?_
       refine aL (.agg #[.bool bx0,.slice A9 (iQ.take (min iQ.length 20)).length c9]) kD rfl rfl rfl rfl (fun X=>by kernel_rfl) ?_
       refine aL (.agg #[.bool bx0,.slice A9 (iQ.take (min iQ.length 20)).length c9,.int .i64 pJ]) kD rfl rfl rfl rfl (fun X=>by kernel_rfl) ?_
       refine bK (z:=.agg #[.bool false,.slice none 0 0,.int .i64 0]) (by kernel_rfl) rfl rfl rfl rfl (fun Y hY=>yW kD hY) ?_
       intro N5 w7 cB Qr jK
       have Xr:=Pl.Cb.lt jK
       have wm:=zYz cB
       replace jK:Pl.Cb w7 N5 26 [.bool false,.slice none 0 0,.int .i64 0]:=jK
       have lJ:=yW kD cB
       refine bz (new:=[.bool bx0,.slice A9 (iQ.take (min iQ.length 20)).length c9,.int .i64 pJ]) jK (by kernel_rfl) rfl (by simp [Value.oneCell']) rfl rfl rfl rfl rfl rfl (fun Y hY=>Pl.Ex.xs lJ hY (by omega)) ?_
       intro w8 iL sS
       have iX:=Pl.Ex.xs cB iL (by omega)
       have EW:=Xs.size iL
       have Nr:=Pl.Ex.xs lJ iL (by omega)
       refine aj ?_
       refine Kj (by kernel_rfl) ?_
       refine lI [(0,.agg #[.bool bx0,.slice Ax iQ.length cx,.int .i64 pJ]),(1,.agg #[.bool H8,.slice Ay Dz.length cy,.int .i64 H9]),(2,.int .i16 e9),(3,.pointer (some ⟨N1,0,none⟩)),(4,.pointer (some ⟨N2,0,none⟩)),(6,.bool false),(7,.bool true),(8,.pointer (some ⟨N5,0,none⟩))] (aC rfl (aC rfl (aC rfl (aC rfl (aC rfl (aC rfl (aC rfl (aC rfl dW)))))))) ?_
       exact zq _ _ ⟨bx0,iQ.take (min iQ.length 20),A9,c9,N5,(yW aP (yW bO iX)),(U.below u9 iX),sS,(by omega),rfl⟩
     · refine bK (z:=.agg #[.bool false,.slice none 0 0,.int .i64 0]) (by kernel_rfl) rfl rfl rfl rfl (fun Y hY=>yW hS5 hY) ?_
       intro N5 w6 bO Qr jK
       have Xr:=Pl.Cb.lt jK
       have rC:=zYz bO
       replace jK:Pl.Cb w6 N5 26 [.bool false,.slice none 0 0,.int .i64 0]:=jK
       have kD:=yW hS5 bO
       refine aj ?_
       refine jk [(false,13,368639),(true,14,376831),(true,17,393215),(false,19,524287)] 1048575 0 aR (by kernel_rfl) (by kernel_rfl) (by kernel_rfl) ?_
       refine JX (ys:=iQ.take (min iQ.length 20)) (zZz bV bO) (U.take (U.below Gu (yW hE1 (yW hE2 (yW aJ (yW aP (yW aW bO)))))) (k:=min iQ.length 20) (c':=cx) (by omega) (by omega)) (by simp;omega) rfl rfl rfl rfl rfl rfl rfl (fun Y hY=>Pl.Ex.xs kD hY (by omega)) ?_
       intro A9 c9 w7 iM u9
       have cB:=Pl.Ex.xs (yW aW bO) iM (by omega)
       have wm:=Xs.size iM
       have lJ:=Pl.Ex.xs kD iM (by omega)
       have sS:=Pl.Cb.xs jK iM (by simp;omega)
       refine aL (.agg #[.bool bx0,.slice A9 (iQ.take (min iQ.length 20)).length c9]) lJ rfl rfl rfl rfl (fun X=>by kernel_rfl) ?_
       refine aL (.agg #[.bool bx0,.slice A9 (iQ.take (min iQ.length 20)).length c9,.int .i64 pJ]) lJ rfl rfl rfl rfl (fun X=>by kernel_rfl) ?_
       refine bz (new:=[.bool bx0,.slice A9 (iQ.take (min iQ.length 20)).length c9,.int .i64 pJ]) sS (by kernel_rfl) rfl (by simp [Value.oneCell']) rfl rfl rfl rfl rfl rfl (fun Y hY=>Pl.Ex.xs lJ hY (by omega)) ?_
       intro w8 iL Xt
       have iX:=Pl.Ex.xs cB iL (by omega)
       have EW:=Xs.size iL
       have Nr:=Pl.Ex.xs lJ iL (by omega)
       refine aj ?_
       refine Kj (by kernel_rfl) ?_
       refine lI [(0,.agg #[.bool bx0,.slice Ax iQ.length cx,.int .i64 pJ]),(1,.agg #[.bool H8,.slice Ay Dz.length cy,.int .i64 H9]),(2,.int .i16 e9),(3,.pointer (some ⟨N1,0,none⟩)),(4,.pointer (some ⟨N2,0,none⟩)),(6,.bool false),(7,.bool true),(8,.pointer (some ⟨N5,0,none⟩))] (aC rfl (aC rfl (aC rfl (aC rfl (aC rfl (aC rfl (aC rfl (aC rfl dW)))))))) ?_
       have k6:=U.xs u9 iL sS (by simp)
       exact zq _ _ ⟨bx0,iQ.take (min iQ.length 20),A9,c9,N5,(yW aP iX),k6,Xt,(by omega),rfl⟩
   · refine bK (z:=.agg #[.bool false,.slice none 0 0,.int .i64 0]) (by kernel_rfl) rfl rfl rfl rfl (fun Y hY=>yW fJ hY) ?_
     intro N4 w5 aW wQ bV
     have ES:=Pl.Cb.lt bV
     have mI:=zYz aW
     replace bV:Pl.Cb w5 N4 26 [.bool false,.slice none 0 0,.int .i64 0]:=bV
     have hS5:=yW fJ aW
     refine aj ?_
     refine jk [(false,3,368631),(false,13,368639),(true,14,376831),(true,17,393215),(false,19,524287)] 1048575 0 aR (by kernel_rfl) (by kernel_rfl) (by kernel_rfl) ?_
     refine ze (e := 67) (n:=0) [] rfl rfl rfl rfl (by kernel_rfl) (fun Y hY=>yW hS5 hY) ?_
     intro N5 w6 bO Qr jK
     have Xr:=Pl.Cb.lt jK
     have rC:=zYz bO
     have kD:=yW hS5 bO
     refine JX (ys:=iQ.take (min iQ.length 20)) jK (U.take (U.below Gu (yW hE1 (yW hE2 (yW aJ (yW aP (yW aW bO)))))) (k:=min iQ.length 20) (c':=cx) (by omega) (by omega)) (by simp;omega) rfl rfl rfl rfl rfl rfl rfl (fun Y hY=>Pl.Ex.xs kD hY (by omega)) ?_
     intro A9 c9 w7 iM u9
     have cB:=Pl.Ex.xs bO iM (by omega)
     have wm:=Xs.size iM
     have lJ:=Pl.Ex.xs kD iM (by omega)
     refine aL (.agg #[.bool bx0,.slice A9 (iQ.take (min iQ.length 20)).length c9]) lJ rfl rfl rfl rfl (fun X=>by kernel_rfl) ?_
     refine aL (.agg #[.bool bx0,.slice A9 (iQ.take (min iQ.length 20)).length c9,.int .i64 pJ]) lJ rfl rfl rfl rfl (fun X=>by kernel_rfl) ?_
     refine bz (new:=[.bool bx0,.slice A9 (iQ.take (min iQ.length 20)).length c9,.int .i64 pJ]) (zZz bV cB) (by kernel_rfl) rfl (by simp [Value.oneCell']) rfl rfl rfl rfl rfl rfl (fun Y hY=>Pl.Ex.xs lJ hY (by omega)) ?_
     intro w8 iL fO
     have iX:=Pl.Ex.xs (yW aW cB) iL (by omega)
     have EW:=Xs.size iL
     have Nr:=Pl.Ex.xs lJ iL (by omega)
     refine aj ?_
     refine Kj (by kernel_rfl) ?_
     refine lI [(0,.agg #[.bool bx0,.slice Ax iQ.length cx,.int .i64 pJ]),(1,.agg #[.bool H8,.slice Ay Dz.length cy,.int .i64 H9]),(2,.int .i16 e9),(3,.pointer (some ⟨N1,0,none⟩)),(4,.pointer (some ⟨N2,0,none⟩)),(6,.bool false),(7,.bool true),(8,.pointer (some ⟨N4,0,none⟩))] (aC rfl (aC rfl (aC rfl (aC rfl (aC rfl (aC rfl (aC rfl (aC rfl dW)))))))) ?_
     have k6:=U.xs u9 iL (zZz bV cB) (by simp)
     exact zq _ _ ⟨bx0,iQ.take (min iQ.length 20),A9,c9,N4,(yW aP iX),k6,fO,(by omega),rfl⟩
end Go.Proofs.YtdpmbgomcjnohaaGreatDoor
namespace Go.Proofs.YtdpmbgomcjnohaaGreatDoor
open Pl
open Go.ChangeShapes Go.WideShapes Go.ChangeAt Go.RowKit
set_option linter.all false
set_option maxRecDepth 100000
set_option maxHeartbeats 8000000
theorem yB:Tryz.prog.cellsOf 24 = 2:=by kernel_rfl
theorem vo:Tryz.prog.cellsOf 22 = 1:=by kernel_rfl
theorem yC {H:Type} {enc:TypeId × Value→H} {W:World} {m:Nat} {c0 c1:Value} {y:DataW H × List MemPlace} (h:DataW.trod enc Tryz.prog W 0 (fun _=>true) true m 24 [c0,c1]=some y) :
  ∃ (s:Bool) (A:Option Addr) (c:Nat) (xs:List Nat),c0 = .bool s∧c1 = .slice A xs.length c∧U W (.slice A xs.length c) xs:=by
 obtain ⟨ys,n,_,rfl,hl,hlen,hf⟩:=DataW.trod_struct Tryz.underlying24 h
 match ys,hlen,hf with
 | [y0,y1],_,hf =>
  have h0:=hf 0 _ rfl
  have h1:=hf 1 _ rfl
  have cb:Tryz.prog.cellsOf 4 = 1:=by kernel_rfl
  simp [vo,cb] at h0 h1
  obtain ⟨s,e0,_⟩:=DataW.trod_bool Tryz.underlying4 h0
  obtain ⟨xs,u⟩:=jy h1
  obtain ⟨A,c,rfl,hu⟩:=id u
  simp at e0
  exact ⟨s,A,c,xs,e0,rfl,u⟩
end Go.Proofs.YtdpmbgomcjnohaaGreatDoor
namespace Go.Proofs.YtdpmbgomcjnohaaGreatDoor
open Pl
open Go.ChangeShapes Go.WideShapes Go.ChangeAt Go.RowKit
set_option linter.all false
set_option maxRecDepth 100000
set_option maxHeartbeats 8000000
abbrev jI:List (String × DataW Unit):=[("math/bits.deBruijn32tab",Rows.laid_math_bits_deBruijn32tab),("ziggurat/ntt.fields",Rows.laid_ziggurat_ntt_fields)]
theorem sJ (os:Os) (args:Array Value):laidMetH Tryz.prog jI ((World.laidAll Tryz.prog os jI).forCall (fun _ _=>0) ⟨#[],args,[]⟩).memory:=by
 rw [MakeChecks.laidMetH_plain _ _ _ (by kernel_rfl)]
 exact laidMet_laidAll _ (by kernel_rfl) (by kernel_rfl)
theorem Zh:Tryz.prog.globalNamed "math/bits.deBruijn32tab" = some 0:=by kernel_rfl
theorem Zi:(Tryz.prog.globals[0]?).map (·.type)=some 121 := by kernel_rfl
theorem BJ:Tryz.prog.cellsOf 5 = 1:=by kernel_rfl
theorem wX:Tryz.prog.cellsOf 121 = 32:=by kernel_rfl
theorem ou {W:World} (h:laidMetH Tryz.prog jI W):Gt W:=by
 rw [MakeChecks.laidMetH_plain _ _ _ (by kernel_rfl)] at h
 obtain ⟨ps,⟨g0,t0,cs0,f0,p0,q0,hg0,ht0,hv0,hd0,_,_⟩,_⟩:=h
 obtain rfl:=Option.some.inj (Zh.symm.trans hg0)
 obtain rfl:=Option.some.inj (Zi.symm.trans ht0)
 obtain ⟨xs,m1,rfl,hx1,hlen,Zj,hel⟩:=DataW.trod_array Tryz.underlying121 hd0
 rw [wX] at hlen
 simp only [BJ] at hel
 obtain ⟨l⟩:=cs0
 rw [Prod.mk.injEq] at hx1
 have hx2:DataW.agg (Hf.map fun n=>DataW.lit (Lit.int .u8 ((n:Nat):Int)))=DataW.agg (xs.map (·.1)):=hx1.1
 rw [DataW.agg.injEq] at hx2
 have hc:=fun k=>World.var?_cell hg0 hv0 k
 have hall:∀ i,i<32→W.cell? ⟨0,i,none⟩=some (.int .u8 ((lb Hf i:Nat):Int)):=by
  intro i hi
  have e:=hel i hi
  have hxi:i<xs.length:=by omega
  have VF:i<l.length:=by have:l.length=32:=hlen;omega
  have hdi:i<Hf.length:=hi
  rw [List.getElem?_eq_getElem hxi,Nat.mul_one,List.drop_eq_getElem_cons VF] at e
  simp only [List.take_succ_cons,List.take_zero] at e
  obtain ⟨a,e0,hy,_⟩:=DataW.trod_int Tryz.underlying5 e
  have h1:=congrArg (fun q=>q[i]?) hx2
  simp only [List.getElem?_map,List.getElem?_eq_getElem hxi,List.getElem?_eq_getElem hdi,Option.map_some,Option.some.injEq,hy,DataW.lit.injEq,Lit.int.injEq,true_and] at h1
  have h2:lb Hf i=Hf[i]:=by unfold lb;rw [List.getElem?_eq_getElem hdi];rfl
  rw [h2,h1]
  have h3:=hc i
  simp only [List.cons.injEq,and_true] at e0
  rw [← e0]
  exact h3.trans (by simp [VF])
 exact ⟨World.block_lt_of_cell? W ⟨0,0,none⟩ (hall 0 (by decide)),hall⟩
end Go.Proofs.YtdpmbgomcjnohaaGreatDoor
namespace Go.Proofs.YtdpmbgomcjnohaaGreatDoor
open Pl
open Go.ChangeShapes Go.WideShapes Go.ChangeAt Go.RowKit
set_option linter.all false
set_option maxRecDepth 100000
set_option maxHeartbeats 8000000
theorem uh {H:Type} {enc:TypeId × Value→H} {W:World} {base:Nat} {v:Value} {d:DataW H} {ps:List MemPlace} (hval:Value.okWide Tryz.prog W .any base 26 v) (h:DataW.Trod enc Tryz.prog W 0 (fun _=>true) true 26 v d ps) :
  ∃ (s:Bool) (A:Option Addr) (c:Nat) (xs:List Nat) (e:Int),v = .agg #[.bool s,.slice A xs.length c,.int .i64 e]∧U W (.slice A xs.length c) xs:=by
 obtain ⟨cs,rfl,hsz⟩:=okWide_struct Tryz.underlying26 hval
 rw [show Tryz.prog.cellsOf 26 = 3 by kernel_rfl] at hsz
 obtain ⟨l⟩:=cs
 match l,hsz with
 | [c0,c1,c2],_ =>
  obtain ⟨fuel,hf⟩:=h
  obtain ⟨ys,n,_,YB,hl,hlen,hf⟩:=DataW.trod_struct Tryz.underlying26 hf
  match ys,hlen,hf with
  | [y0,y1],_,hf =>
   have h0:=hf 0 _ rfl
   have h1:=hf 1 _ rfl
   simp [yB,show Tryz.prog.cellsOf 3 = 1 by kernel_rfl] at h0 h1
   obtain ⟨s,A,c,xs,rfl,rfl,u⟩:=yC h0
   obtain ⟨e,e1,_⟩:=DataW.trod_int Tryz.underlying3 h1
   obtain rfl:=(List.cons.inj (show [c2]=[Value.int .i64 e] from e1)).1
   exact ⟨s,A,c,xs,e,rfl,u⟩
end Go.Proofs.YtdpmbgomcjnohaaGreatDoor
namespace Go.Proofs.YtdpmbgomcjnohaaGreatDoor
open Pl
open Go.ChangeShapes Go.WideShapes Go.ChangeAt Go.RowKit
set_option linter.all false
set_option maxRecDepth 100000
set_option maxHeartbeats 8000000
theorem yM (os:Os) (started:os.Started) (H:Type) (enc:TypeId × Value→H) :
  ReturnsInHanded {} Tryz.checked os 3 .any (fun w args=>(Rows.dyadTellsSpec.pre enc Tryz.prog Tryz.f3 [] false w args∧laidMetH Tryz.prog jI w)∧sizedMet enc Tryz.prog Tryz.f3 (OpenSpec.ofChange Rows.dyadTellsSpec) false w args)
   (Rows.dyadTellsSpec.post enc Tryz.prog Tryz.f3 false true false false):=by
 refine returnsInHanded_of_change_and (C:=Tryz.checked) (X:=fun w _=>laidMetH Tryz.prog jI w) (fun _ _ _ hh h=>h.of_heap hh) own started (by kernel_rfl) Tryz.func3
  (ChangeSpec.witness_shaped (enc:=enc) (C:=Tryz.checked) (os:=os) (X:=fun w _=>laidMetH Tryz.prog jI w) false (World.laidAll Tryz.prog os jI) #[.agg #[.bool false,.slice none 0 0,.int .i64 0],.agg #[.bool false,.slice none 0 0,.int .i64 0],.int .i16 0] 8 (World.laidAll_os _ _ _) (World.shaped_of_ZipB (by kernel_rfl) (by kernel_rfl)) (by kernel_rfl) (by kernel_rfl) (by kernel_rfl) (sJ os _)) ?_
 intro W base args ds gs before hval0 hW _ _ hL _
 have hval:∀ (j:Nat) t v,Tryz.f3.params[j]?=some t→args[j]?=some v→Value.okWide Tryz.prog W .any base t v:=hval0
 have hW':=hW
 obtain ⟨p,q,E5,hV,rfl,hfz,hnd⟩:=hW
 have hA:DataW.TrodAll enc Tryz.prog W 0 (fun _=>true) true Tryz.f3.params.toList args.toList ds p:=E5
 rw [Tryz.params3] at hA hval
 clear E5 hval0
 obtain ⟨v0,vs0,d0,ds0,p0,q0,Py,rfl,rfl,h0,r0⟩:=trodAll_cons hA
 obtain ⟨v1,vs1,d1,ds1,p1,q1,BL,rfl,rfl,h1,r1⟩:=trodAll_cons r0
 obtain ⟨v2,vs2,d2,ds2,p2,q2,JP,rfl,rfl,h2,r2⟩:=trodAll_cons r1
 obtain ⟨hn1,rfl,rfl⟩:=trodAll_nil r2
 subst hn1
 subst JP
 subst BL
 obtain rfl:args=#[v0,v1,v2]:=by cases args;simp_all
 obtain ⟨rfl,rfl⟩:=trodVars_none hV
 obtain ⟨s0,A0,c0,x0,e0,hv0,u0⟩:=uh (hval 0 26 v0 rfl rfl) h0
 subst hv0
 obtain ⟨s1,A1,c1,x1,e1,hv1,u1⟩:=uh (hval 1 26 v1 rfl rfl) h1
 subst hv1
 obtain ⟨z2,rfl,rfl,rfl,hz2⟩:=open_int Tryz.underlying27 (hval 2 27 v2 rfl rfl) h2
 have hb2:=bounds_i16 hz2
 refine (Cf W (ou hL) s0 A0 c0 x0 e0 u0 s1 A1 c1 x1 e1 u1 z2 hb2).mono fun e W' ⟨he,hB⟩=>?_
 subst he
 exact ⟨_,rfl,rR hW' rfl (by rw [Tryz.params3];decide +kernel) rfl rfl rfl rfl hB⟩
theorem Cj:Rows.DyadTellsSaid :=
 OpenClaim.holds_of_wide 3 Tryz.f3 rfl rfl rfl rfl rfl rfl rfl ⟨rfl,rfl,rfl,rfl,rfl⟩ rfl rfl rfl rfl rfl (by kernel_rfl) Tryz.func3 (by kernel_rfl)
  (of_decide_eq_true (by kernel_rfl)) (by unfold Func.isWrapper;first | (rw [if_pos (by decide +kernel)];kernel_rfl) | (rw [if_neg (by decide +kernel)];exact ⟨rfl,rfl⟩))
  (fun os started H enc _=>yM os started H enc)
theorem dyadTells_holds:Rows.DyadTellsCardSaid :=
 Claim7.holds_tied_plain_at .later [] [.data,.wider] true Rows.dyadTellsCard.stood.harness false
  Cj (fun _ h=>by cases h) (by kernel_rfl) (fun _ h=>by cases h) dyadTells_row_tie rfl ⟨rfl,rfl⟩ (by kernel_rfl) rfl
  (fun f fn hf hfn=>by
   obtain rfl:f = 3 := Option.some.inj ((show Tryz.prog.funcNamed "ziggurat/zigguratlaw10.DyadTells" = some 3 by kernel_rfl).symm.trans hf) |>.symm
   obtain rfl:fn=Tryz.f3 := (Option.some.inj (Tryz.func3.symm.trans hfn)).symm
   exact ⟨by kernel_rfl,fun j t ht=>by
    rw [Tryz.params3] at ht
    have hm:t∈[26,26,27]:=by simpa using Array.mem_of_getElem? ht
    have hall:([26,26,27].all fun u=>!Tryz.prog.wantsStandIn u)=true:=by kernel_rfl
    exact (show Tryz.prog.wantsStandIn t=false by simpa using List.all_eq_true.1 hall t hm)⟩)
  (by kernel_rfl)
end Go.Proofs.YtdpmbgomcjnohaaGreatDoor
