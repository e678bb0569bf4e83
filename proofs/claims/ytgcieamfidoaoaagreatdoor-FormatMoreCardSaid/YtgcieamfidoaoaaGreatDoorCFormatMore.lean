/- Proved: the statement FormatMore: rounding to more digits first. No condition. -/
import Derived.Test.YtgcieamfidoaoaaGreatDoorBaa
import Derived.Test.YtgcieamfidoaoaaGreatDoorBab
import Derived.Test.YtgcieamfidoaoaaGreatDoorBad
import Derived.Test.YtgcieamfidoaoaaGreatDoorBac
import Derived.Test.YtgcieamfidoaoaaGreatDoorBag
import Derived.Test.YtgcieamfidoaoaaGreatDoorBaf
import Derived.Test.YtgcieamfidoaoaaGreatDoorBaj
import Derived.Test.YtgcieamfidoaoaaGreatDoorBae
import Derived.Test.YtgcieamfidoaoaaGreatDoorBak
import Derived.Test.YtgcieamfidoaoaaGreatDoorBal
import Derived.Test.YtgcieamfidoaoaaGreatDoorBan
import Derived.Test.YtgcieamfidoaoaaGreatDoorBao
import Derived.Test.YtgcieamfidoaoaaGreatDoorBap
import Derived.Test.YtgcieamfidoaoaaGreatDoorBaq
import Derived.Test.YtgcieamfidoaoaaGreatDoorBar
import Derived.Test.YtgcieamfidoaoaaGreatDoorBah
import Derived.Test.YtgcieamfidoaoaaGreatDoorBam
import Derived.Test.YtgcieamfidoaoaaGreatDoorBax
import Derived.Test.YtgcieamfidoaoaaGreatDoorBay
import Derived.Test.YtgcieamfidoaoaaGreatDoorBaz
import Derived.Deep.MidRow
import Derived.Deep.WholeRow
import Derived.Laws.CopyOwn
import Derived.WalkKit
import Derived.Laws.EntriesVeiled
import Derived.Deep.AppendSrc
import Derived.Lib.AppendZeros
import Derived.Laws.IdiomStrings
import Derived.Laws.StructEq
import Derived.SevenTiedAt
import Derived.LaidMore
import Derived.Stop.Joined
import Derived.JoinedOf
import Derived.JoinedAt
import Derived.Lib.SmallJoins
import Derived.Laws.IdiomArrays
import Derived.WideKeyPair
import Derived.WideKeyArr2
import Derived.Deep.Cut
import Derived.Deep.RegionHeld3

set_option linter.all false
set_option maxHeartbeats 8000000
namespace Go.Proofs.YtgcieamfidoaoaaGreatDoor.Pl
open Go
set_option maxRecDepth 100000
theorem w32 {z:Int} (h1:0≤z) (h2:z<4294967296):IntKind.u32.wrap z=z:=by
 simp only [IntKind.wrap,IntKind.signed,IntKind.bits];simp;omega
section
variable {P:Program} {T:TypeId} {x y:Operand} {k k':IntKind} {a b c:Int} {v:Bool}
theorem rY (h0:b≠0) (h:a.tmod b=c) (X:World):Bn P .rem T x y (.int k a) (.int k b) X = .ok (.int k c) X:=by
 subst h;simp [Bn,eqGuard,binOp,Op.intDiv,h0]
end
section
variable {P:Program} {L:List Oper} {S:World→Prop} {K:List (Nat × Value)→World→Prop} {k:Bool} {i m d:Nat} {o:Oper} {r:List (Bool × Nat × Nat)} {l:List (Nat × Value)} {w w':World} {v:Value}
theorem xI {x:Operand} {s t:TypeId} {kd kd':IntKind} {a c:Int} (hu:P.underlying t=some (.int kd')) (hs:(P.underlying s).isSome=true) (h1:kd'.wrap a=c) (hS:S w) (ho:nth L i=some o) (hop:o.op = .convert s t x) (hd:o.dst=some d) (hg:gd L l o.guard=some true) (hx:dK l x=some (.int kd a))
  (h:fF P L S K r ((d,.int kd' c)::l) w):fF P L S K ((k,i,m)::r) l w :=
 fO hS ho hd hg (fun ρ hρ X _=>by
  obtain ⟨sd,hs⟩:=Option.isSome_iff_exists.1 hs
  unfold execOp;rw [hop]
  refine dI _ X ?_
  rw [hρ.dK hx]
  subst h1
  simp [convert,run_underlying hs,run_underlying hu,Conv.intToInt]) h
theorem aby {x y:Operand} {t e:TypeId} {ad:Addr} {n j s:Nat} {z:Int} {kd:IntKind} (hu:P.underlying t=some (.array n e)) (hs:(P.info? e).map (·.size)=some s) (hz:z=(j:Int)) (hj:j<n) (hS:S w) (ho:nth L i=some o) (hop:o.op = .indexAddr t x y) (hd:o.dst=some d) (hg:gd L l o.guard=some true)
  (hx:dK l x=some (.pointer (some ad))) (hy:dK l y=some (.int kd z)) (h:fF P L S K r ((d,.pointer (some (ad.add (j*s))))::l) w):fF P L S K ((k,i,m)::r) l w :=
 fO hS ho hd hg (fun ρ hρ X _=>by
  subst hz
  unfold execOp;rw [hop]
  refine dI _ X ?_
  rw [hρ.dK hx,hρ.dK hy]
  have h0:(0:Int)≤(j:Int)∧(j:Int)<(n:Int):=by omega
  obtain ⟨inf,hi,hz⟩:=Option.map_eq_some_iff.1 hs
  subst hz
  simp [Instr.indexAt,run_underlying hu,asIntOf,h0,hj,sizeOf,typeInfo,hi,Result.andThen,Instr.sureAddr]) h
def Fj (A:Option Addr) (l h c s:Nat):Value:=.slice (if c=l then A else A.map (·.add (l*s))) (h-l) (c-l)
end
end Go.Proofs.YtgcieamfidoaoaaGreatDoor.Pl
namespace Go.Proofs.YtgcieamfidoaoaaGreatDoor.Pl
open Go Go.RowKit
set_option maxRecDepth 100000
theorem Xs.drop {Bs Cs:List Nat} {w w':World} (h:Xs Bs w w') (hs:∀ k∈Bs,k∈Cs∨w.heap.size≤k):Xs Cs w w':=⟨h.os,h.tape,h.output,h.size,fun k hk hn=>h.block k hk fun hb=>by
 rcases hs k hb with h1 | h1
 · exact hn h1
 · omega⟩
def Sl (w:World) (lo:Nat) (v:Value) (n:Nat) (xs:List Value):Prop:=∃ A c,v = .slice A n c∧n≤c∧c≤9223372036854775807 ∧
 (0<xs.length→∃ ad,A=some ad∧lo≤ad.block∧ad.block<w.heap.size∧∀ j u,xs[j]?=some u→w.cell? (ad.add j)=some u)
theorem Sl.xs {w w':World} {lo n:Nat} {v:Value} {xs:List Value} {Bs:List Nat} (h:Sl w lo v n xs) (k:Xs Bs w w') (hB:∀ b∈Bs,b<lo∨w.heap.size≤b):Sl w' lo v n xs:=by
 obtain ⟨A,c,h1,h2,h3,h4⟩:=h
 refine ⟨A,c,h1,h2,h3,fun h0=>?_⟩
 obtain ⟨ad,e,hl,hb,hc⟩:=h4 h0
 refine ⟨ad,e,hl,Nat.lt_of_lt_of_le hb k.size,fun j u hj=>?_⟩
 rw [← hc j u hj]
 refine World.cell?_of_block (k.block _ (by rw [eZ];exact hb) ?_)
 intro hm
 rw [eZ] at hm
 rcases hB _ hm with h5 | h5<;>omega
where eZ {a:Addr} {j:Nat}:(a.add j).block=a.block:=by unfold Addr.add;split<;>rfl
theorem Sl.at {w:World} {lo n c:Nat} {A:Option Addr} {xs:List Value} (h:Sl w lo (.slice A n c) n xs) {j:Nat} {u:Value} (hj:xs[j]?=some u):∃ ad,A=some ad∧w.cell? (ad.add j)=some u:=by
 obtain ⟨A',c',h1,h2,h3,h4⟩:=h
 cases h1
 obtain ⟨ad,e,_,_,hc⟩:=h4 (by have:=(List.getElem?_eq_some_iff.1 hj).1;omega)
 exact ⟨ad,e,hc j u hj⟩
theorem Sl.cut {w:World} {lo n c s:Nat} {A:Option Addr} {xs:List Value} (h:Sl w lo (.slice A n c) n xs) (hx:xs.length=n*s) {l k:Nat} (h1:l≤k) (h2:k≤n) :
  Sl w lo (Fj A l k c s) (k-l) ((xs.drop (l*s)).take ((k-l)*s)):=by
 obtain ⟨A',c',he,hn,hc,h4⟩:=h
 cases he
 refine ⟨_,_,rfl,by omega,by omega,fun h0=>?_⟩
 have hlen:((xs.drop (l*s)).take ((k-l)*s)).length≤(k-l)*s:=by rw [List.length_take];exact Nat.min_le_left _ _
 have hkl:l<k:=by
  rcases Nat.lt_or_ge l k with h | h
  · exact h
  · have hz:(k-l)*s=0:=by rw [show k-l=0 by omega,Nat.zero_mul]
    omega
 have hpos:0<xs.length:=by rw [List.length_take,List.length_drop] at h0;omega
 obtain ⟨ad,rfl,hl,hb,hcell⟩:=h4 hpos
 have hne:c≠l:=by omega
 rw [if_neg hne]
 refine ⟨ad.add (l*s),rfl,by rw [Sl.xs.eZ];exact hl,by rw [Sl.xs.eZ];exact hb,fun j u hj=>?_⟩
 have e:(ad.add (l*s)).add j=ad.add (l*s+j):=by
  unfold Addr.add
  by_cases hi:l*s=0<;>by_cases hj:j=0<;>simp [hi,hj,Nat.add_assoc]
 rw [e]
 refine hcell _ u ?_
 rw [List.getElem?_take] at hj
 split at hj
 · rwa [List.getElem?_drop] at hj
 · cases hj
end Go.Proofs.YtgcieamfidoaoaaGreatDoor.Pl
namespace Go.Proofs.YtgcieamfidoaoaaGreatDoor.Pl
open Go Go.RowKit
set_option maxRecDepth 100000
theorem a64 {a b:Nat} {x y:Int} (hx:x=(a:Int)) (hy:y=(b:Int)) (h:a+b≤9223372036854775807):IntKind.i64.wrap (x+y)=((a+b:Nat):Int):=by
 subst hx hy;rw [oC (by omega) (by omega)];omega
end Go.Proofs.YtgcieamfidoaoaaGreatDoor.Pl
namespace Go.Proofs.YtgcieamfidoaoaaGreatDoor.Rf
open Go Go.RowKit Go.Proofs.YtgcieamfidoaoaaGreatDoor.Pl
set_option maxRecDepth 100000
section
variable {P:Program} {Q:Exit→Act→World→Prop} {n:Nat} {ds:List Deferred} {w0:World} {cs:List Code} {l:Fr} {B:Bx} {Γ:Gm}
theorem rz {L:List Oper} {r:nu} {i m d:Nat} {o:Oper} {x y:Operand} {op:BinOp} {tx ty:TypeId} {u u':Value} {p:Prop} {ip:Decidable p} (hr:∀ X,Bn P op tx x y u u' X = .ok (.bool (decide p)) X) (ho:nth L i=some o) (hop:o.op = .binOp op tx x y ty) (hd:o.dst=some d) (hg:jT L l o.guard=some true) (hx:ev l x=some (.v u)) (hy:ev l y=some (.v u'))
  (h1:p→HA P Q n ds w0 cs L r ((d,.v (.bool true))::l) B Γ) (h2:¬ p→HA P Q n ds w0 cs L r ((d,.v (.bool false))::l) B Γ):HA P Q n ds w0 cs L ((false,i,m)::r) l B Γ:=by
 by_cases hp:p
 · exact Cc (fun X=>by rw [hr X,decide_eq_true hp]) ho hop hd hg hx hy (h1 hp)
 · exact Cc (fun X=>by rw [hr X,decide_eq_false hp]) ho hop hd hg hx hy (h2 hp)
end
end Go.Proofs.YtgcieamfidoaoaaGreatDoor.Rf
namespace Go.Proofs.YtgcieamfidoaoaaGreatDoor.Rf
open Go Go.RowKit Go.Proofs.YtgcieamfidoaoaaGreatDoor.Pl
set_option maxRecDepth 100000
section
variable {P:Program} {Q:Exit→Act→World→Prop} {n:Nat} {ds:List Deferred} {w0:World} {cs:List Code} {l0:Fr} {B0:Bx} {Γ0:Gm} {L:List Oper} {ord:Option (List Nat)}
def QS (l:Fr):List Nat→Fr→Fr
 | [],acc=>acc
 | t::ts,acc=>match lk l t with
  | some s=>QS l ts ((t,s)::acc)
  | none=>QS l ts acc
def QT (l:Bx):List Nat→Bx→Bx
 | [],acc=>acc
 | t::ts,acc=>match jU l t with
  | some (u,c)=>QT l ts ((t,u,c)::acc)
  | none=>QT l ts acc
def QU (l:Gm):List Nat→Gm→Gm
 | [],acc=>acc
 | t::ts,acc=>match lW l t with
  | some s=>QU l ts ((t,s)::acc)
  | none=>QU l ts acc
theorem rG {l:Fr}:∀ {ts:List Nat} {acc:Fr},vo acc l→vo (QS l ts acc) l
 | [],_,h=>h
 | t::ts,acc,h=>by
  unfold QS
  cases ht:lk l t with
  | none=>exact rG h
  | some s =>
   refine rG fun q u hq=>?_
   unfold lk at hq
   cases hb:Nat.beq t q with
   | true =>
    rw [hb] at hq
    obtain rfl:=Nat.eq_of_beq_eq_true hb
    obtain rfl:=Option.some.inj hq
    exact ht
   | false=>rw [hb] at hq;exact h q u hq
theorem rH {l:Bx}:∀ {ts:List Nat} {acc:Bx},(∀ b x,jU acc b=some x→jU l b=some x)→∀ b x,jU (QT l ts acc) b=some x→jU l b=some x
 | [],_,h=>h
 | t::ts,acc,h=>by
  unfold QT
  cases ht:jU l t with
  | none=>exact rH h
  | some s =>
   obtain ⟨u,c⟩:=s
   refine rH fun q x hq=>?_
   unfold jU at hq
   cases hb:Nat.beq t q with
   | true =>
    rw [hb] at hq
    obtain rfl:=Nat.eq_of_beq_eq_true hb
    obtain rfl:=Option.some.inj hq
    exact ht
   | false=>rw [hb] at hq;exact h q x hq
theorem rJ {l:Gm}:∀ {ts:List Nat} {acc:Gm},(∀ b x,lW acc b=some x→lW l b=some x)→∀ b x,lW (QU l ts acc) b=some x→lW l b=some x
 | [],_,h=>h
 | t::ts,acc,h=>by
  unfold QU
  cases ht:lW l t with
  | none=>exact rJ h
  | some s =>
   refine rJ fun q x hq=>?_
   unfold lW at hq
   cases hb:Nat.beq t q with
   | true =>
    rw [hb] at hq
    obtain rfl:=Nat.eq_of_beq_eq_true hb
    obtain rfl:=Option.some.inj hq
    exact ht
   | false=>rw [hb] at hq;exact h q x hq
theorem FC {l l':Fr} {B B':Bx} {Γ Γ':Gm} (a b c:List Nat) (e1:QS l a []=l') (e2:QT B b []=B') (e3:QU Γ c []=Γ') (h:HV P Q n ds w0 cs l' B' Γ'):HV P Q n ds w0 cs l B Γ:=fun α γ w hH=>by
 subst e1 e2 e3
 have:=h α γ w (hH.sub (rH (by rintro b x h;cases h)) (rJ (by rintro b x h;cases h)))
 exact Ch ((rG (by rintro b x h;cases h)).look α γ) this
end
end Go.Proofs.YtgcieamfidoaoaaGreatDoor.Rf
namespace Go.Proofs.YtgcieamfidoaoaaGreatDoor
open Go.ChangeShapes Go.WideShapes Go.ChangeAt Go.RowKit
set_option maxRecDepth 100000
theorem laidOut:laidOutB Tryz.prog=true:=by kernel_rfl
abbrev jY:List (String × DataW Unit):=[("ziggurat/ntt.fields",Rows.laid_ziggurat_ntt_fields)]
theorem l5 (os:Os) (args:Array Value):laidMetH Tryz.prog jY ((World.doorLaid Tryz.prog 400 os).forCall (fun _ _=>0) ⟨#[],args,[]⟩).memory :=
 laidMetH_of_parts3 (fuel:=8) (laidMet_of_run' 8 (by kernel_rfl) (by kernel_rfl)) (by kernel_rfl) (by kernel_rfl)
theorem eB {H:Type} {enc:TypeId × Value→H} {W W':World} {sp:Nat→Bool} (hB:Ext W W'):∀ {ts:List TypeId} {vs:List Value} {ds:List (DataW H)} {ps:List MemPlace},
  (∀ t∈ts,Tryz.prog.readableRec t=true∧t<Tryz.prog.types.size)→DataW.TrodAll enc Tryz.prog W 0 (fun _=>true) true ts vs ds ps→(∀ p∈ps,p.block<W.heap.size)→(∀ p∈ps,sp p.block=true)→DataW.TrodAll enc Tryz.prog W' 0 sp true ts vs ds ps
 | [],[],[],_,_,h,_,_=>h
 | t::_,_::_,_::_,_,hT,⟨p,q,h1,h2,e⟩,hlt,hs=>⟨p,q,
  WideElems.Trod_stays laidOut (hT t (List.mem_cons_self ..)).1 (hT t (List.mem_cons_self ..)).2 h1 (fun x hx=>Below.same hB (hlt x (by rw [e];exact List.mem_append_left _ hx))) (fun x hx=>hs x (by rw [e];exact List.mem_append_left _ hx)),
  eB hB (fun t ht=>hT t (List.mem_cons_of_mem _ ht)) h2 (fun x hx=>hlt x (by rw [e];exact List.mem_append_right _ hx)) (fun x hx=>hs x (by rw [e];exact List.mem_append_right _ hx)),e⟩
theorem l6 {H:Type} {enc:TypeId × Value→H} {f:Func} {s:ChangeSpec} {apart fresh handsOn again:Bool} {W W':World} {args:Array Value} {ds gs:List (DataW H)} {before:List MemPlace}
  (hW:DataW.Whole enc Tryz.prog f.params.toList s.vars apart W args.toList ds gs before) (hv:s.vars=[]) (hT:∀ t∈f.params.toList,Tryz.prog.readableRec t=true∧t<Tryz.prog.types.size)
  (hres:f.resultTypes=#[4]) (hfn:(s.fn H (ds++gs)).results=[.lit (.bool true)]) (hfa:(s.fn H (ds++gs)).args=ds) (UD:(s.fn H (ds++gs)).vars=[]) (hB:Ext W W') :
  s.post enc Tryz.prog f apart fresh handsOn again W args (.bool true) W':=by
 have hlt:∀ p∈before,p.block<W.heap.size:=fun p hp=>hW.lt p hp
 have hold:∀ p∈before,(fun b=>decide (b<W.heap.size)) p.block=true:=fun p hp=>by simpa using hlt p hp
 have hres':∀ (b:Nat) (sp:Nat→Bool) (hd:Bool),DataW.TrodAll enc Tryz.prog W' b sp hd f.resultTypes.toList ((Value.bool true).resultList f.resultTypes.size) (s.fn H (ds++gs)).results []:=by
  intro b sp hd
  rw [hres,hfn]
  exact trodAll_mk1 (shut_bool Tryz.underlying4 _)
 have hW2:=hW
 obtain ⟨p,q,hA,hV,hpq,hz,hn⟩:=hW
 rw [hv] at hV
 obtain ⟨_,rfl⟩:=trodVars_none hV
 rw [List.append_nil] at hpq
 subst hpq
 have hargs:∀ sp:Nat→Bool,(∀ p'∈before,sp p'.block=true)→DataW.TrodAll enc Tryz.prog W' 0 sp true f.params.toList args.toList (s.fn H (ds++gs)).args before:=fun sp hs=>by
  rw [hfa];exact eB hB hT hA hlt hs
 have hvars:∀ sp:Nat→Bool,DataW.TrodVars enc Tryz.prog W' sp s.vars (s.fn H (ds++gs)).vars []:=fun sp=>by rw [hv,UD];exact rfl
 refine ⟨ds,gs,before,[],before,[],hW2,hres' _ _ _,hargs _ hold,hvars _,World.keptBut_mono (fun p hp=>⟨hp,?_⟩) (Below.frame hB (·∈before)),fun _=>?_⟩
 · simpa using hp
 · refine ⟨ok_one hres rfl (okWide_bool_mk Tryz.underlying4 _),_,_,([]++before)++[],⟨[]++before,[],trodAll_append (hargs _ (fun _ _=>rfl)) (hres' _ _ _),hvars _,rfl,?_,?_⟩,?_⟩
   · intro b off hp
     have hin:MemPlace.cell b off∈before:=by simpa using hp
     rw [Below.frozen hB (hlt _ hin)]
     exact hz b off hin
   · intro ha
     have:=hn ha
     simpa using this
   · intro p hp _
     simpa using hp
end Go.Proofs.YtgcieamfidoaoaaGreatDoor
namespace Go.Proofs.YtgcieamfidoaoaaGreatDoor
open Go.RowKit
set_option maxRecDepth 100000
def aS (xs:List Nat) (k:Nat):Nat:=val (xs.take k)
theorem l7 (xs:List Nat) (k:Nat) (hx:∀ x∈xs,x<4294967296):(limbs (aS xs k)).length≤k:=by
 apply gH
 have:=mQ (xs.take k) (fun x h=>hx x (List.mem_of_mem_take h))
 refine Nat.lt_of_lt_of_le this (Nat.pow_le_pow_right (by decide) ?_)
 rw [List.length_take];omega
theorem jK (w:World) (v:Value) (xs:List Nat) (k:Int) (hk0:0≤k) (hk1:k≤1000000000) (h:U w v xs) :
  Calls Tryz.prog 65 #[v,.int .i64 k] w fun e w'=>(∃ u,e = .returned u∧Un w' u (aS xs k.toNat))∧Below w.heap.size w w':=by
 have h':=h
 obtain ⟨A,c,rfl,⟨hc,hm⟩,hx,hr⟩:=h
 clear hr
 by_cases hl:(xs.length:Int)≤k
 · have hu:=dZ w _ xs h' (by omega)
   have HT:Hid (xs.take k.toNat=xs):=List.take_of_length_le (by omega)
   have hmin:min (xs.length:Int) k=xs.length:=by omega
   go_enter Tryz.func65,Tryz.ntmps65
   go_wp2_with (go_at_call 100;refine hu.mono ?_;rintro e w' ⟨⟨z,rfl,hz⟩,hB⟩)
   go_ret
   exact ⟨⟨_,rfl,by rw [Un,aS,HT.out];exact hz⟩,hB⟩
 · obtain ⟨k,rfl⟩:=Int.eq_ofNat_of_zero_le hk0
   have hu:=dZ w _ _ (h'.take (k:=k) (c':=c) (by omega) (by omega)) (by rw [List.length_take];omega)
   have hmin:min (xs.length:Int) (k:Int)=k:=by omega
   go_enter Tryz.func65,Tryz.ntmps65
   go_wp2_with (go_at_call 100;refine hu.mono ?_;rintro e w' ⟨⟨z,rfl,hz⟩,hB⟩)
   go_ret
   exact ⟨⟨_,rfl,by rw [Un,aS,Int.toNat_natCast];exact hz⟩,hB⟩
end Go.Proofs.YtgcieamfidoaoaaGreatDoor
namespace Go.Proofs.YtgcieamfidoaoaaGreatDoor
open Go.RowKit
set_option maxRecDepth 100000
theorem iJ (w:World) (v:Value) (xs:List Nat) (k:Int) (h:U w v xs) (hk0:0≤k) (hk1:k≤1000000000) (n:Nat) (hn:aS xs k.toNat=n) :
  Calls Tryz.prog 65 #[v,.int .i64 k] w fun e w'=>∃ u,e = .returned u∧Un w' u n∧Ext w w':=by
 subst hn
 exact (jK w v xs k hk0 hk1 h).mono fun e w' ⟨⟨u,he,hu⟩,hb⟩=>⟨u,he,hu,hb⟩
end Go.Proofs.YtgcieamfidoaoaaGreatDoor
namespace Go.Proofs.YtgcieamfidoaoaaGreatDoor
open Go.RowKit
set_option maxRecDepth 100000
theorem jL (w:World) (v:Value) (xs:List Nat) (h:U w v xs) :
  Calls Tryz.prog 46 #[v] w fun e w'=>e = .returned (.bool (fG xs))∧w=w':=by
 obtain ⟨A,c,rfl,⟨hc,hm⟩,hx,hr⟩:=h
 by_cases hlen:xs.length≤65536
 · rcases Nat.eq_zero_or_pos xs.length with h0 | h0
   · obtain rfl:=List.eq_nil_of_length_eq_zero h0
     go_enter Tryz.func46,Tryz.ntmps46
     go_wp2
     go_ret
     exact ⟨rfl,rfl⟩
   · obtain ⟨ad,rfl,hb,hcell⟩:=hr h0
     have hc1:=hcell (xs.length-1) (by omega)
     have hne:(((xs.length:Nat):Int)==0)=false:=by rw [beq_eq_false_iff_ne];omega
     have hres:fG xs=(lb xs (xs.length-1) != 0):=by
      unfold fG
      have:xs.isEmpty=false:=by cases xs<;>simp_all
      simp [hlen,this]
     have HR:=Lib.hid hres
     clear hres
     go_enter Tryz.func46,Tryz.ntmps46
     go_wp2
     go_ret
     exact ⟨by rw [HR.out,← bne_cast];rfl,rfl⟩
 · have hres:fG xs=false:=by unfold fG;simp [hlen]
   have hne:(((xs.length:Nat):Int)==0)=false:=by rw [beq_eq_false_iff_ne];omega
   have HR:=Lib.hid hres
   clear hres
   go_enter Tryz.func46,Tryz.ntmps46
   go_wp2
   go_ret
   exact ⟨by rw [HR.out];rfl,rfl⟩
end Go.Proofs.YtgcieamfidoaoaaGreatDoor
namespace Go.Proofs.YtgcieamfidoaoaaGreatDoor
open Go.RowKit
set_option maxRecDepth 100000
theorem fH (w:World) (va vb:Value) (gV bs:List Nat) (na nb:Nat) (ha:U w va gV) (hb:U w vb bs) (hna:gV.length=na) (hnb:bs.length=nb) (hn1:na≤1000) (hn2:nb≤1000) :
  Calls Tryz.prog 82 #[va,vb] w fun e w'=>(∃ u,e = .returned u∧Un w' u (val gV*val bs))∧Ext w w':=by
 obtain ⟨A,ca,rfl,⟨hca,hma⟩,hxl,Io⟩:=id ha
 obtain ⟨A2,cb,rfl,⟨hcb,hmb⟩,hyl,Ip⟩:=id hb
 have HL:Hid (gV.length=na∧bs.length=nb):=⟨hna,hnb⟩
 have QJ:=Lib.hid (fun k=>eP bs k)
 have QK:=Lib.hid (fun k=>eP gV k)
 have HT2:Hid (bs.take nb=bs∧gV.take na=gV):=⟨by rw [← hnb];exact List.take_length,by rw [← hna];exact List.take_length⟩
 rw [hna] at hca hma Io ⊢
 rw [hnb] at hcb hmb Ip ⊢
 obtain ⟨n,hnn⟩:∃ n,na+nb=n:=⟨_,rfl⟩
 have hni:(na:Int)+(nb:Int)=(n:Int):=by omega
 obtain ⟨i0,hi,hz0,hz1,hz2⟩:=info_parts oJ
 obtain ⟨B,hB⟩:∃ B,w.heap.size=B:=⟨_,rfl⟩
 have yM:=Lib.hid hB
 clear ha hb hna hnb
 go_enter Tryz.func82,Tryz.ntmps82
 go_wp2_with (at_make;refine wpList_make_full _ rfl _ _ 24 rfl w.heap.size 57 i0 (.int .u32 0) 1 Tryz.underlying24 hi hz0 hz1 _ _ _ _ n rfl rfl (by omega) (by omega) (by rw [hz2];omega) (by unfold maxLen;omega) (Nat.le_refl _) ?_;intro w1 hown hgrow)
 have ho0:Own w1 w.heap.size (.slice (some ⟨w.heap.size,0,none⟩) n n) (List.replicate n 0):=by
  have:=Own.zeros hown
  rwa [List.length_replicate] at this
 have hE0:Ext w w1:=(Ext.refl w).grown hgrow (Nat.le_refl _) (fun _ h=>by cases h)
 rw [hB] at ho0
 clear hown hgrow hi hz0 hz1 hz2 i0
 have hS0:Hid (GZ bs gV n 0 (List.replicate n 0)):=⟨by simp,fun x hx=>by simp at hx;omega,by simp [dM,val],fun m _=>jq _ _⟩
 go_wp2
 go_loopw [6] (fun t wr=>∃ (i:Nat) (o:List Nat),i≤na∧t = .int .i64 (i:Nat)∧Hid (GZ bs gV n i o)∧Own wr B (.slice (some ⟨B,0,none⟩) n n) o∧Ext w wr) (fun t _=>na-(intOf t).toNat)
 case atStart=>exact ⟨0,_,Nat.zero_le _,rfl,hS0,ho0,hE0⟩
 case round =>
  clear hS0 ho0 hE0
  obtain ⟨i,o,hib,rfl,HO,hown,hE⟩:=hrel
  by_cases hlt:i<na
  · obtain ⟨ad,rfl,hb1,hcell1⟩:=Io (by omega)
    have hyb:=dz hxl i
    have hty:=QK.out i (by rw [HL.out.1];exact hlt)
    obtain ⟨y,yL⟩:∃ y,lb gV i=y:=⟨_,rfl⟩
    rw [yL] at hyb hty
    have HY:=Lib.hid yL
    have Iq:Hid (Kg o n i (val o+LB^i*(val (bs.take 0)*y)) 0 o 0):=⟨HO.out.len,HO.out.lt,by decide,by simp [val],fun m _=>rfl⟩
    have sO:Hid (val (gV.take (i+1))=val (gV.take i)+LB^i*y):=hty
    have hno:Hid (lb o (i+nb)=0):=HO.out.out _ (by rw [HL.out.2];exact Nat.le_refl _)
    clear yL hty
    go_wp2
    go_loopw [8,7] (fun t s wx=>∃ (j:Nat) (o2:List Nat) (cy:Nat),j≤nb∧t = .int .i64 (j:Nat)∧s = .int .u64 (cy:Nat)∧Hid (Kg o n i (val o+LB^i*(val (bs.take j)*y)) j o2 cy)∧Own wx B (.slice (some ⟨B,0,none⟩) n n) o2∧Ext w wx) (fun t _ _=>nb-(intOf t).toNat)
    case atStart=>exact ⟨0,o,0,Nat.zero_le _,rfl,rfl,Iq,hown,hE⟩
    case round =>
     clear Iq hown hE
     obtain ⟨j,o2,cy,hj,rfl,rfl,HW,hown,hE⟩:=hrel
     by_cases hjt:j<nb
     · obtain ⟨Ir,rfl,hb2,hcell2⟩:=Ip (by omega)
       have hc0:=(hE.cell (p:=ad.add i) (by rw [aL];exact hb1)).trans (hcell1 i hlt)
       rw [HY.out] at hc0
       have hc1:=(hE.cell (p:=Ir.add j) (by rw [aL];exact hb2)).trans (hcell2 j hjt)
       have hxb:=dz hyl j
       have htk:=QJ.out j (by rw [HL.out.2];exact hjt)
       have hcz:=hown.rd.2 (i+j) (by rw [HW.out.len];omega)
       have hf:=hown.frozen' (i+j)
       have hzb:=dz HW.out.lt (i+j)
       have hcy:=HW.out.Bz
       obtain ⟨x,BG⟩:∃ x,lb bs j=x:=⟨_,rfl⟩
       rw [BG] at hc1 hxb htk
       obtain ⟨z,hzz⟩:∃ z,lb o2 (i+j)=z:=⟨_,rfl⟩
       rw [hzz] at hcz hzb
       obtain ⟨t,ht⟩:∃ t,x*y=t:=⟨_,rfl⟩
       have ht1:t≤18446744065119617025:=by rw [← ht];exact El hxb hyb
       have hti:(y:Int)*(x:Int)=(t:Int):=by rw [← ht,Int.natCast_mul,Int.mul_comm]
       obtain ⟨u,hu⟩:∃ u,cy+(t+z)=u:=⟨_,rfl⟩
       obtain ⟨s,hs⟩:∃ s,u%4294967296=s:=⟨_,rfl⟩
       obtain ⟨d,hd⟩:∃ d,u/4294967296=d:=⟨_,rfl⟩
       obtain ⟨hm,hsb,hdb,hub,htz⟩:=oD t z cy s d u ht1 hzb hcy hu hs hd
       have hst:=HW.out.step (by omega) t s d (by rw [hzz];exact hm) hsb hdb
       rw [Nat.add_assoc (val o),Nat.pow_add,Nat.mul_assoc,← Nat.mul_add,← ht,← Nat.mul_assoc,← Nat.add_mul,← htk] at hst
       have HST:=Lib.hid hst
       have hown2:=hown.set' (i+j) s
       have hE2:=hE.setCell (p:=⟨B,i+j,none⟩) (by rw [yM.out];exact Nat.le_refl _) (.int .u32 (s:Nat))
       have q1:IntKind.u64.wrap (t:Int)=(t:Int):=by rw [IntKind.wrap_u64];omega
       have q2:IntKind.u64.wrap ((t:Int)+(z:Int))=(t:Int)+(z:Int):=by rw [IntKind.wrap_u64];omega
       have q3:(t:Int)+(z:Int)+(cy:Int)=(u:Int):=by omega
       have q4:IntKind.u64.wrap (u:Int)=(u:Int):=by rw [IntKind.wrap_u64];omega
       have q5:IntKind.u32.wrap (u:Int)=(s:Int):=by rw [IntKind.wrap_u32];omega
       have q6:(u:Int)%4294967296=(s:Int):=by omega
       have q7:(u:Int)/4294967296=(d:Int):=by omega
       have q8:IntKind.u64.wrap (x:Int)=(x:Int):=by rw [IntKind.wrap_u64];omega
       have q9:IntKind.u64.wrap (y:Int)=(y:Int):=by rw [IntKind.wrap_u64];omega
       have q10:IntKind.u64.wrap (z:Int)=(z:Int):=by rw [IntKind.wrap_u64];omega
       have q11:(u:Int)%18446744073709551616=(u:Int):=by omega
       have q12:(t:Int)%18446744073709551616=(t:Int):=by omega
       have q13:((t:Int)+(z:Int))%18446744073709551616=(t:Int)+(z:Int):=by omega
       have q14:IntKind.i64.wrap ((i:Int)+(j:Int))=(i:Int)+(j:Int):=IntWalk.i64_in _ (by omega)
       have q15:(0:Int)≤(i:Int)+(j:Int):=by omega
       have q16:(i:Int)+(j:Int)<(n:Int):=by omega
       have q17:((i:Int)+(j:Int)).toNat=i+j:=by omega
       have q18:(0:Int)≤(i:Int):=by omega
       have q19:(i:Int)<(na:Int):=by omega
       have q20:(0:Int)≤(j:Int):=by omega
       have q21:(j:Int)<(nb:Int):=by omega
       clear hst htk BG hzz ht hu hs hd hm HW hxb hzb ht1 hcy hown2 hE2
       have HOWN:=Lib.hid hown
       have UE:=Lib.hid hE
       clear hown hE
       go_wp2_with (fail)
       go_quiet (fail)
       have hown2:=(HOWN.out.ext (iF wr nq)).set' (i+j) s
       have hE2:=(UE.out.below (iF wr nq)).setCell (p:=⟨B,i+j,none⟩) (by rw [yM.out];exact Nat.le_refl _) (.int .u32 (s:Nat))
       go_wp2
       go_roundw
       case rel=>exact ⟨j+1,_,d,by omega,by go_num,rfl,HST,hown2,hE2⟩
       case measure=>simp [intOf];omega
     · obtain rfl:j=nb:=by omega
       have hcz:=hown.rd.2 (i+j) (by rw [HW.out.len];omega)
       have hf:=hown.frozen' (i+j)
       have hl0:lb o2 (i+j)=0:=by rw [HW.out.out _ (Nat.le_refl _)];exact hno.out
       have hws:=oN o2 (i+j) cy (by rw [HW.out.len];omega)
       rw [hl0,Nat.mul_zero,Nat.add_zero,HW.out.val,HT2.out.1] at hws
       have qx:(Value.int .u32 (lb o2 (i+j):Nat)) = .int .u32 0:=by rw [hl0];rfl
       rw [qx] at hcz
       have sP:=HW.out.Bz
       have q5:IntKind.u32.wrap (cy:Int)=(cy:Int):=by rw [IntKind.wrap_u32];omega
       have q6:(cy:Int)%4294967296=(cy:Int):=by omega
       have hown2:=hown.set' (i+j) cy
       have hE2:=hE.setCell (p:=⟨B,i+j,none⟩) (by rw [yM.out];exact Nat.le_refl _) (.int .u32 (cy:Nat))
       have HST:Hid (GZ bs gV n (i+1) (o2.set (i+j) cy)):=by
        refine ⟨by rw [List.length_set];exact HW.out.len,iQ HW.out.lt sP,?_,fun m hm=>?_⟩
        · rw [hws,sO.out,Nat.mul_add,← HO.out.val,Nat.mul_left_comm]
        · rw [HL.out.2] at hm
          rw [dA _ (by omega),HW.out.out _ (by omega)]
          exact HO.out.out m (by rw [HL.out.2];omega)
       have g12:(i:Int)+(j:Int)<(n:Int):=by omega
       have g13:i+j<n:=by omega
       clear hl0 hws qx hown hE HW sP sO hno
       go_wp2
       go_roundw
       case rel=>exact ⟨i+1,_,by omega,by go_num,HST,hown2,hE2⟩
       case measure=>simp [intOf];omega
  · obtain rfl:i=na:=by omega
    have hu:=hown.BJ HO.out.lt (by rw [HO.out.len];omega)
    have hvv:=HO.out.val
    rw [HT2.out.2,Nat.mul_comm] at hvv
    have HV:=Lib.hid hvv
    have hol:=HO.out.len
    clear hown HO hvv
    go_wp2_with (fail)
    refine (dZ _ _ _ hu (by omega)).mono ?_
    rintro e w2 ⟨⟨u,rfl,hu2⟩,hB2⟩
    rw [HV.out] at hu2
    have hE2:=hE.below hB2
    have HF:Hid (∃ u',Ending.returned u = .returned u'∧Un w2 u' (val gV*val bs)):=⟨_,rfl,hu2⟩
    clear hu2 hu hB2
    go_wp2
    go_ret
    exact ⟨HF.out,hE2⟩
end Go.Proofs.YtgcieamfidoaoaaGreatDoor
namespace Go.Proofs.YtgcieamfidoaoaaGreatDoor
open Go.RowKit
set_option maxRecDepth 100000
theorem wF (w:World) (va vb:Value) (n m k:Nat) (ha:Un w va n) (hb:Un w vb m) (hn:(limbs n).length≤398) (hm:(limbs m).length≤398) (hk:n*m=k) :
  Calls Tryz.prog 82 #[va,vb] w fun e w'=>∃ u,e = .returned u∧Un w' u k∧Ext w w':=by
 refine (fH w va vb _ _ _ _ ha hb rfl rfl (by omega) (by omega)).mono ?_
 rw [aJ,aJ,hk]
 rintro e w' ⟨⟨u,h1,h2⟩,h3⟩
 exact ⟨u,h1,h2,h3⟩
end Go.Proofs.YtgcieamfidoaoaaGreatDoor
namespace Go.Proofs.YtgcieamfidoaoaaGreatDoor
open Go.RowKit
set_option maxRecDepth 100000
theorem kD (w:World) (v:Value) (xs:List Nat) (h:U w v xs) (b:Bool) (hb:fG xs=b) :
  Calls Tryz.prog 46 #[v] w fun e w'=>e = .returned (.bool b)∧Ext w w' :=
 (jL w v xs h).mono fun e w' ⟨he,hw⟩=>⟨by rw [he,hb],by rw [← hw];exact Ext.refl w⟩
end Go.Proofs.YtgcieamfidoaoaaGreatDoor
namespace Go.Proofs.YtgcieamfidoaoaaGreatDoor
open Go.RowKit
set_option maxRecDepth 100000
theorem Ki (w:World) (va vb:Value) (n m k:Nat) (ha:Un w va n) (hb:Un w vb m) (hn:(limbs n).length≤398) (hm:(limbs m).length≤398) (hk:n*m=k) :
  Calls Tryz.prog 35 #[va,vb] w fun e w'=>∃ u,e = .returned u∧Un w' u k∧Ext w w':=by
 have h0:=Lib.hid (wF w va vb n m k ha hb hn hm hk)
 clear ha hb hn hm hk
 go_enter Tryz.func35,Tryz.ntmps35
 go_wp2_with (fail)
 refine h0.out.mono ?_
 rintro e w1 ⟨u,rfl,hu,hB⟩
 have HF:Hid (∃ u',Ending.returned u = .returned u'∧Un w1 u' k∧Ext w w1):=⟨_,rfl,hu,hB⟩
 clear hu hB h0
 go_wp2
 go_ret
 exact HF.out
end Go.Proofs.YtgcieamfidoaoaaGreatDoor
namespace Go.Proofs.YtgcieamfidoaoaaGreatDoor
open Go.RowKit
set_option maxRecDepth 100000
theorem Sz.lit {z:Int} {K:Nat} (h:z.natAbs<4294967296) (hk:1≤K):Sz z K:=Nat.le_trans (kN (k:=1) (by rw [Nat.pow_one];exact h)) hk
end Go.Proofs.YtgcieamfidoaoaaGreatDoor
namespace Go.Proofs.YtgcieamfidoaoaaGreatDoor
open Go.RowKit
set_option maxRecDepth 100000
theorem Sz.cut {w:World} {v:Value} {xs:List Nat} (u:U w v xs) (b:Bool) (k K:Nat) (hk:k≤K):Sz (sg b (aS xs k)) K:=by
 show (limbs (sg b (aS xs k)).natAbs).length≤K
 rw [lZ]
 exact Nat.le_trans (l7 xs k u.lim) hk
end Go.Proofs.YtgcieamfidoaoaaGreatDoor
namespace Go.Proofs.YtgcieamfidoaoaaGreatDoor.Dy
set_option maxRecDepth 100000
def cl (v:Rat):Int := -(-v).floor
def UF (d:Nat) (v:Rat):Int :=
 if d=0 then v.floor else if d=1 then cl v
 else if d=2 then (if v<0 then cl v else v.floor)
 else if d=3 then (if v<0 then v.floor else cl v)
 else if v-v.floor<1/2 then v.floor else if 1/2<v-v.floor then cl v
 else if v.floor%2=0 then v.floor else cl v
def cut (d:Nat) (v:Rat) (n:Int):Rat:=dv (UF d (v*2^n)) (-n)
end Go.Proofs.YtgcieamfidoaoaaGreatDoor.Dy
namespace Go.Proofs.YtgcieamfidoaoaaGreatDoor.Rq
set_option maxRecDepth 100000
theorem YA (a b:Rat):Rat.divInt (a.num*b.num) ((a.den*b.den:Nat):Int)=a*b:=by rw [Rat.divInt_ofNat,Rat.mul_def']
end Go.Proofs.YtgcieamfidoaoaaGreatDoor.Rq
namespace Go.Proofs.YtgcieamfidoaoaaGreatDoor.Rf
open Go Go.RowKit Go.Proofs.YtgcieamfidoaoaaGreatDoor.Pl
set_option maxRecDepth 100000
section
variable {P:Program} {Q:Exit→Act→World→Prop} {n:Nat} {ds:List Deferred} {w0:World} {cs:List Code} {l:Fr} {B:Bx} {Γ:Gm} {L:List Oper}
theorem Mg {r:nu} {i m d:Nat} {o:Oper} {x y:Operand} {t e:TypeId} {k b q j s:Nat} {z:Int} {kd:IntKind} (hu:P.underlying t=some (.array k e)) (hs:(P.info? e).map (·.size)=some s) (hz:z=(j:Int)) (hj:j<k) (ho:nth L i=some o) (hop:o.op = .indexAddr t x y) (hd:o.dst=some d) (hg:jT L l o.guard=some true)
  (hx:ev l x=some (.p b q)) (hy:ev l y=some (.v (.int kd z))) {q':Nat} (hq:q+j*s=q') (h:HA P Q n ds w0 cs L r ((d,.p b q')::l) B Γ):HA P Q n ds w0 cs L ((false,i,m)::r) l B Γ:=fun α γ w hH=>by
 subst hq
 have h1:=h α γ w hH
 refine aby hu hs hz hj trivial ho hop hd (gy hg α γ) (show dK (gI α γ l) x=some (Value.pointer (some ⟨α b,q,none⟩)) from bT hx) (bT hy) ?_
 rw [Addr.add_mid]
 exact h1
end
end Go.Proofs.YtgcieamfidoaoaaGreatDoor.Rf
namespace Go.Proofs.YtgcieamfidoaoaaGreatDoor
open Go.RowKit
set_option maxRecDepth 100000
theorem Ci (w:World) (va vb:Value) (a b:Int) (ha:Zn w va a) (hb:Zn w vb b) (hl:(limbs a.natAbs).length≤398) (hl2:(limbs b.natAbs).length≤398) (y:Int) (hy:a*b=y) :
  Calls Tryz.prog 79 #[va,vb] w fun e w'=>∃ u,e = .returned u∧Zn w' u y∧Ext w w':=by
 obtain ⟨p,A,L,c,n,rfl,hu,hL,hz,-,hza,hzn⟩:=ha.open
 obtain ⟨q,B,K,d,m,rfl,hv,hK,hz2,-,mF,pJ⟩:=hb.open
 rw [hza] at hl
 rw [mF] at hl2
 obtain ⟨k,hk⟩:∃ k,n*m=k:=⟨_,rfl⟩
 have hM:=Lib.hid (fun W h g=>Ki W (.slice A L c) (.slice B K d) n m k h g hl hl2 hk)
 have hkl:(limbs k).length≤1000000000:=by
  have:=wG n m
  rw [hk] at this
  omega
 have WA:=Lib.hid (fun W v (h:Un W v k)=>kG W (!(p==q)) v (limbs k) h hkl k (aJ _) y (by rw [← hk,Kj,← hz,← hz2];exact hy))
 have hE0:=((((Ext.refl w).alloc (.cells #[.bool p,.slice A L c] 34)).alloc (.cells #[.bool q,.slice B K d] 34)).alloc (.cells #[.bool false,.slice none 0 0] 34)).drew
 have hI0:=(Ib.DR w (.cells #[.bool p,.slice A L c] 34) (.cells #[.bool q,.slice B K d] 34) false (.slice none 0 0) 34).ext (Ext.refl _).drew
 have uF:=(Ib.new w p (.slice A L c) 34).ext ((((Ext.refl _).alloc (.cells #[.bool q,.slice B K d] 34)).alloc (.cells #[.bool false,.slice none 0 0] 34)).drew)
 have uO:=(Ib.new2 w (.cells #[.bool p,.slice A L c] 34) q (.slice B K d) 34).ext (((Ext.refl _).alloc (.cells #[.bool false,.slice none 0 0] 34)).drew)
 have hu0:=hu.below hE0
 have hv0:=hv.below hE0
 obtain ⟨p0,p1,p2,p3,p4⟩:=id uF
 obtain ⟨q0,q1,q2,q3,q4⟩:=id uO
 clear hl hl2 hza hzn mF pJ hz hz2 hL hK ha hb hy hk
 go_enter Tryz.func79,Tryz.ntmps79
 have hS0:(w.heap.size+1+1<(((w.alloc (.cells #[.bool p,.slice A L c] 34)).alloc (.cells #[.bool q,.slice B K d] 34)).alloc (.cells #[.bool false,.slice none 0 0] 34)).drew.heap.size∧(((w.alloc (.cells #[.bool p,.slice A L c] 34)).alloc (.cells #[.bool q,.slice B K d] 34)).alloc (.cells #[.bool false,.slice none 0 0] 34)).drew.cell? ⟨w.heap.size,0,none⟩=some (.bool p)∧(((w.alloc (.cells #[.bool p,.slice A L c] 34)).alloc (.cells #[.bool q,.slice B K d] 34)).alloc (.cells #[.bool false,.slice none 0 0] 34)).drew.cell? ⟨w.heap.size,1,none⟩=some (.slice A L c)∧(((w.alloc (.cells #[.bool p,.slice A L c] 34)).alloc (.cells #[.bool q,.slice B K d] 34)).alloc (.cells #[.bool false,.slice none 0 0] 34)).drew.cell? ⟨w.heap.size+1,0,none⟩=some (.bool q)∧(((w.alloc (.cells #[.bool p,.slice A L c] 34)).alloc (.cells #[.bool q,.slice B K d] 34)).alloc (.cells #[.bool false,.slice none 0 0] 34)).drew.cell? ⟨w.heap.size+1,1,none⟩=some (.slice B K d))∧Ext w (((w.alloc (.cells #[.bool p,.slice A L c] 34)).alloc (.cells #[.bool q,.slice B K d] 34)).alloc (.cells #[.bool false,.slice none 0 0] 34)).drew:=⟨⟨by simp,p1,p2,q1,q2⟩,hE0⟩
 clear p0 p1 p2 p3 p4 q0 q1 q2 q3 q4
 go_wp2
 go_region_held3 (fun X=>(w.heap.size+1+1<X.heap.size∧X.cell? ⟨w.heap.size,0,none⟩=some (.bool p)∧X.cell? ⟨w.heap.size,1,none⟩=some (.slice A L c)∧X.cell? ⟨w.heap.size+1,0,none⟩=some (.bool q)∧X.cell? ⟨w.heap.size+1,1,none⟩=some (.slice B K d))∧Ext w X)
  (first
   | exact hS0
   | exact Kk (by assumption) (by assumption)
   | exact Kl (by assumption))
  (first
   | (go_at_call 35;((with_reducible refine (hM.out _ hu0 hv0).mono ?_);rintro e w2 ⟨u,rfl,hu2,hE2⟩;obtain ⟨A2,c2,rfl,hc2⟩:=Un.sh hu2))
   | (go_at_call 55;((with_reducible refine (WA.out _ _ hu2).mono ?_);rintro e w3 ⟨u,rfl,hz3,gF⟩;obtain ⟨b3,A3,L3,c3,rfl⟩:=hz3.sh;have sj:=(hI0.ext hE2).ext gF;obtain ⟨i0,i1,i2,i3,i4⟩:=id sj)))
 clear sj hM WA
 go_wp2
 (try simp only [Exit.inBlock,Exit.then])
 refine bodyPost_ret (v:=.agg #[.bool b3,.slice A3 L3 c3]) (show (results _ _).run _ _=_ from ?_) rfl ⟨_,rfl,hz3.gD ((hI0.ext hE2).ext gF) (bC _ _ _) _ _,((hE0.below hE2).below gF).gD (by omega) _ _⟩
 simp only [results]
 go_simp
end Go.Proofs.YtgcieamfidoaoaaGreatDoor
namespace Go.Proofs.YtgcieamfidoaoaaGreatDoor.Rf
open Go Go.RowKit Go.Proofs.YtgcieamfidoaoaaGreatDoor.Pl
set_option maxRecDepth 100000
section
variable {P:Program} {Q:Exit→Act→World→Prop} {n:Nat} {ds:List Deferred} {w0:World} {cs:List Code} {l:Fr} {B:Bx} {Γ:Gm} {L:List Oper}
theorem oO {r:nu} {i m d:Nat} {o:Oper} {x:Operand} {s t:TypeId} {kd kd':IntKind} {a:Int} (c:Int) (hu:P.underlying t=some (.int kd')) (hs:(P.underlying s).isSome=true) (h1:kd'.wrap a=c) (ho:nth L i=some o) (hop:o.op = .convert s t x) (hd:o.dst=some d) (hg:jT L l o.guard=some true) (hx:ev l x=some (.v (.int kd a)))
 (h:HA P Q n ds w0 cs L r ((d,.v (.int kd' c))::l) B Γ):HA P Q n ds w0 cs L ((false,i,m)::r) l B Γ:=fun α γ w hH=>xI hu hs h1 trivial ho hop hd (gy hg α γ) (bT hx) (h α γ w hH)
end
section
variable {P:Program} {T:TypeId} {x y:Operand} {w:World} {f:Nat→Value} {p:Int→Prop}
theorem l8 (a b:Int) (X:World):Bn P .eql T x y (.int .i64 a) (.int .i64 b) X = .ok (.bool (decide (a=b))) X:=by
 by_cases h:a=b
 · rw [decide_eq_true h];exact aM h X
 · rw [decide_eq_false h];exact aK h X
end
end Go.Proofs.YtgcieamfidoaoaaGreatDoor.Rf
namespace Go.Proofs.YtgcieamfidoaoaaGreatDoor.Rf
open Go Go.RowKit Go.Proofs.YtgcieamfidoaoaaGreatDoor.Pl
set_option maxRecDepth 100000
section
variable {P:Program} {Q:Exit→Act→World→Prop} {n:Nat} {ds:List Deferred} {w0:World} {cs:List Code} {l:Fr} {B:Bx} {Γ:Gm} {L:List Oper}
theorem abz {ord:Option (List Nat)} {l0:Fr} {B0:Bx} {Γ0:Gm} {tr:Tr} {d:Nat} {o:Oper} {rd:List Nat} {lr:Fr} {x:Operand} {s t:TypeId} {kd kd':IntKind} {a:Int} (c:Int) (hu:P.underlying t=some (.int kd')) (hs:(P.underlying s).isSome=true) (h1:kd'.wrap a=c) (ho:nth L (oi ord tr.length)=some o) (hop:o.op = .convert s t x) (hd:o.dst=some d) (hrd:DK L o.guard++vG x=rd) (hlr:kI (uX l0 tr) rd=lr) (hg:jT L lr o.guard=some true)
  (hx:ev lr x=some (.v (.int kd a))) (h:DA P Q n ds w0 cs L ord l0 B0 Γ0 (⟨some d,.v (.int kd' c),rd,[],[],none,none,none⟩::tr)):DA P Q n ds w0 cs L ord l0 B0 Γ0 tr :=
 BN (.v (.int kd' c)) (vG x) [] ho hd hrd hlr hg rfl (fun α γ w _ ρ hρ=>by
  obtain ⟨sd,hs⟩:=Option.isSome_iff_exists.1 hs
  unfold execOp;rw [hop]
  refine dI _ w ?_
  rw [hρ.dK (bT hx)]
  subst h1
  simp [den,convert,run_underlying hs,run_underlying hu,Conv.intToInt]) h
end
end Go.Proofs.YtgcieamfidoaoaaGreatDoor.Rf
namespace Go.Proofs.YtgcieamfidoaoaaGreatDoor.Rf
open Go Go.RowKit Go.Proofs.YtgcieamfidoaoaaGreatDoor.Pl
set_option maxRecDepth 100000
section
variable {P:Program} {Q:Exit→Act→World→Prop} {n:Nat} {ds:List Deferred} {w0:World} {cs:List Code} {l:Fr} {B:Bx} {Γ:Gm} {L:List Oper}
theorem jZ {r:nu} {i m d:Nat} {o:Oper} {x y:Operand} {op:BinOp} {tx ty:TypeId} {u u':Value} {p:Prop} {ip:Decidable p} (hr:∀ X,Bn P op tx x y u u' X = .ok (.bool (decide p)) X)
  (e:(nth L i,o.op,o.dst,jT L l o.guard,ev l x,ev l y)=(some o,.binOp op tx x y ty,some d,some true,some (.v u),some (.v u')))
  (h1:p→HA P Q n ds w0 cs L r ((d,.v (.bool true))::l) B Γ) (h2:¬ p→HA P Q n ds w0 cs L r ((d,.v (.bool false))::l) B Γ):HA P Q n ds w0 cs L ((false,i,m)::r) l B Γ:=by
 simp only [Prod.mk.injEq] at e
 exact rz hr e.1 e.2.1 e.2.2.1 e.2.2.2.1 e.2.2.2.2.1 e.2.2.2.2.2 h1 h2
variable {ord:Option (List Nat)} {l0:Fr} {B0:Bx} {Γ0:Gm} {tr:Tr}
end
end Go.Proofs.YtgcieamfidoaoaaGreatDoor.Rf
namespace Go.Proofs.YtgcieamfidoaoaaGreatDoor.Fm
open Dy
set_option maxRecDepth 100000
theorem Cj {b p:Nat} (hb:2≤b) (hp:1≤p) {lo e f:Int} {s:Rat} (k:Nat) (h0:0≤s) (h:Fit b p lo s e) (g:Fit b (p+k) (lo-k) s f):vl b (dg b s e) e≤vl b (dg b s f) f:=by
 have hn:=jw hb h0 e
 have hm:=jw hb h0 f
 by_cases hz:dg b s e=0
 · rw [hz,show vl b 0 e=vl b 0 f by unfold vl;rw [Rat.intCast_zero,Rat.zero_mul,Rat.zero_mul],pV hb]
   exact hm
 · obtain ⟨h1,h2⟩:=Nf.wide hb hp k (⟨h.1,by omega,h.2.1,h.2.2⟩:Nf b p lo (dg b s e) e)
   rw [← h2]
   exact xR hb (by omega) h0 g h1 (by rw [h2];exact vK hb s e)
theorem Oh {b p:Nat} (hb:2≤b) (hp:1≤p) {lo e f:Int} {s:Rat} (k:Nat) (h0:0≤s) (h:Fit b p lo s e) (g:Fit b (p+k) (lo-k) s f):vl b (dg b s f+1) f≤vl b (dg b s e+1) e:=by
 have hn:=jw hb h0 e
 have h3:=zf hb hp (m:=dg b s e+1) h.1 (by omega) (by have:=h.2.1;omega) (by rcases h.2.2 with h | h;exact .inl h;exact .inr (by omega))
 obtain ⟨h1,h2⟩:=Nf.wide hb hp k h3
 rw [oQ hb hp] at h2
 rcases oP hb (by omega) g h1 with h4 | h4
 · rw [h2] at h4
   exact absurd (Rat.le_trans h4 (vK hb s f)) (Rat.not_le.2 (zM hb s e))
 · rw [h2] at h4;exact h4
theorem Oi {b p:Nat} (hb:2≤b) (hp:1≤p) {lo e f:Int} {s:Rat} (k:Nat) (h0:0≤s) (h:Fit b p lo s e) (g:Fit b (p+k) (lo-k) s f):Fit b p lo (vl b (dg b s f) f) e∧dg b (vl b (dg b s f) f) e=dg b s e:=by
 have h1:=Cj hb hp k h0 h g
 have h2:=vK hb s f
 have h3:=zM hb s e
 have h4:=WB hb h1 (Rat.not_le.1 fun h6=>Rat.not_lt.2 (Rat.le_trans h6 h2) h3)
 obtain ⟨a,c,d⟩:=h
 exact ⟨⟨a,by rw [h4];exact c,by rw [h4];exact d⟩,h4⟩
theorem Oj {b p:Nat} (hb:2≤b) (hp:1≤p) {lo m e f:Int} (d:Nat) (neg:Bool) (h:Nf b p lo m e) (g:Fit b p lo (vl b m e) f):vl b (lY b d neg (vl b m e) f) f=vl b m e:=by
 obtain rfl:=Fit.uniq hb hp (h.fit hb) g
 rw [Mh (p:=p) hb]
theorem UJ {b p:Nat} (hb:2≤b) (hp:1≤p) {lo e f e':Int} {s:Rat} (k d:Nat) (neg:Bool) (hd:d=3∧neg=false∨d=4∧neg=true) (h0:0≤s) (h:Fit b p lo s e) (g:Fit b (p+k) (lo-k) s f)
  (h':Fit b p lo (vl b (lY b d neg s f) f) e'):vl b (lY b d neg (vl b (lY b d neg s f) f) e') e'=vl b (lY b d neg s e) e:=by
 have hm:=tq (b:=b) s f hd
 by_cases hr:0<rest b s f
 · rw [if_pos hr] at hm
   rw [hm] at h' ⊢
   have hn:=jw hb h0 e
   have hs:=zM hb s f
   have hle:=Oh hb hp k h0 h g
   have hre:0<rest b s e:=by
    rw [xS hb]
    have h1:=Cj hb hp k h0 h g
    have h2:=(xS hb).1 hr
    exact Rat.not_le.1 fun h6=>Rat.not_lt.2 (Rat.le_trans h6 h1) h2
   rw [tq (b:=b) s e hd,if_pos hre]
   by_cases hu:vl b (dg b s f+1) f<vl b (dg b s e+1) e
   · obtain ⟨h1,h2⟩:=h.same hb (Rat.le_of_lt hs) hu
     obtain rfl:=Fit.uniq hb hp h1 h'
     rw [tq (b:=b) _ _ hd,h2,if_pos]
     rw [xS hb,h2]
     exact Rat.not_le.1 fun h6=>Rat.not_lt.2 (Rat.le_trans h6 (vK hb s e)) hs
   · have heq:=Rat.le_antisymm hle (Rat.not_lt.1 hu)
     have h3:=zf hb hp (m:=dg b s e+1) h.1 (by omega) (by have:=h.2.1;omega) (by rcases h.2.2 with h | h;exact .inl h;exact .inr (by omega))
     rw [heq,← oQ hb hp (dg b s e+1) e] at h' ⊢
     exact Oj hb hp d neg h3 h'
 · rw [if_neg hr,Int.add_zero] at hm
   have hz:rest b s f=0:=Rat.le_antisymm (Rat.not_lt.1 hr) (Bl s f).1
   have hs:=(qB hb).1 hz
   rw [hm,hs] at h' ⊢
   obtain rfl:=Fit.uniq hb hp h h'
   rfl
theorem UK {b p:Nat} (hb:2≤b) (hp:1≤p) {lo hi:Int} {x y:Fl} (hx:bO b p lo hi x) (hy:bO b p lo hi y) (h:ext b p hi x=ext b p hi y):x=y∨∃ n k,x = .zero n∧y = .zero k:=by
 have ht:=oh (p:=p) hb hi
 have pos:∀ {m e:Int},Nf b p lo m e→0<vl b m e:=fun h=>(kX hb).2 h.2.1
 cases x with
 | zero n =>
  cases y with
  | zero k=>exact .inr ⟨n,k,rfl,rfl⟩
  | fin k m e =>
   have:=pos hy.1
   cases k<;>simp only [ext,sv,Bool.false_eq_true,if_true,if_false] at h<;>grind
  | inf k=>cases k<;>simp only [ext,sv,Bool.false_eq_true,if_true,if_false] at h<;>grind
 | fin n m e =>
  have h1:=pos hx.1
  have h2:=hx.1.gT hb hx.2
  cases y with
  | zero k=>cases n<;>simp only [ext,sv,Bool.false_eq_true,if_true,if_false] at h<;>grind
  | fin k m' e' =>
   have h3:=pos hy.1
   left
   have hv:n=k∧vl b m e=vl b m' e':=by
    cases n<;>cases k<;>simp only [ext,sv,Bool.false_eq_true,if_true,if_false] at h
    · exact ⟨rfl,h⟩
    · exfalso;grind
    · exfalso;grind
    · exact ⟨rfl,by grind⟩
   obtain ⟨rfl,hv⟩:=hv
   obtain ⟨rfl,rfl⟩:=Nf.uniq hb hp hx.1 hy.1 hv
   rfl
  | inf k=>cases n<;>cases k<;>simp only [ext,sv,Bool.false_eq_true,if_true,if_false] at h<;>exfalso<;>grind
 | inf n =>
  cases y with
  | zero k=>cases n<;>simp only [ext,sv,Bool.false_eq_true,if_true,if_false] at h<;>exfalso<;>grind
  | fin k m e =>
   have h1:=pos hy.1
   have h2:=hy.1.gT hb hy.2
   cases n<;>cases k<;>simp only [ext,sv,Bool.false_eq_true,if_true,if_false] at h<;>exfalso<;>grind
  | inf k =>
   left
   cases n<;>cases k<;>simp only [ext,sv,Bool.false_eq_true,if_true,if_false] at h
   · rfl
   · exfalso;grind
   · exfalso;grind
   · rfl
theorem UL {b:Nat} (hb:2≤b) {e f:Int} (h:e≤f):bp b e≤bp b f:=by
 have:=Fq hb (m:=1) (by decide) h
 unfold vl at this
 rwa [Rat.intCast_one,Rat.one_mul,Rat.one_mul] at this
theorem UM {b:Nat} (m e:Int):vl b (m+1) e=vl b m e+bp b e:=by
 unfold vl
 rw [Rat.intCast_add,Rat.intCast_one]
 grind
end Go.Proofs.YtgcieamfidoaoaaGreatDoor.Fm
namespace Go.Proofs.YtgcieamfidoaoaaGreatDoor.Fm
open Dy
open Classical in
set_option maxRecDepth 100000
theorem jS {b p:Nat} (hb:2≤b) (hp:1≤p) {lo hi:Int} {d:Nat} {q:Rat} (hl:lo≤hi):bO b p lo hi (rd b p lo hi d q):=(vL hb hp lo hi d q).ok hb hp hl
end Go.Proofs.YtgcieamfidoaoaaGreatDoor.Fm
namespace Go.Proofs.YtgcieamfidoaoaaGreatDoor.Fm
open Dy
set_option maxRecDepth 100000
theorem Iu {b p:Nat} {hi:Int} {d:Nat} {neg n:Bool} {m e:Int} (h:res b p hi d neg m e = .zero n):n=neg∧(nK b p m e).1=0:=by
 unfold res at h
 split at h
 · next h1=>cases h;exact ⟨rfl,h1⟩
 · split at h
   · cases h
   · split at h<;>cases h
theorem Rd.Er {b p:Nat} {lo hi:Int} {d:Nat} {q:Rat} {n:Bool} (h:Rd b p lo hi d q (.zero n)):n=decide (q<0):=by
 rcases h with ⟨h1,h2⟩ | ⟨h1,e,h2,h3⟩
 · cases h2;rw [h1];rfl
 · exact (Iu h3.symm).1
theorem QV {b p:Nat} (hb:2≤b) (hp:1≤p) {lo e f e':Int} {s:Rat} (k d:Nat) (neg:Bool) (hd:d=2∨d=3∨d=4) (h0:0≤s) (h:Fit b p lo s e) (g:Fit b (p+k) (lo-k) s f)
  (h':Fit b p lo (vl b (lY b d neg s f) f) e'):vl b (lY b d neg (vl b (lY b d neg s f) f) e') e'=vl b (lY b d neg s e) e:=by
 by_cases hf:d=2∨d=3∧neg=true∨d=4∧neg=false
 · have h1:=tu (b:=b) (neg:=neg) s f hf
   rw [h1] at h' ⊢
   obtain ⟨h2,h3⟩:=Oi hb hp k h0 h g
   obtain rfl:=Fit.uniq hb hp h2 h'
   rw [tu _ _ hf,tu _ _ hf,h3]
 · refine UJ hb hp k d neg ?_ h0 h g h'
   rcases hd with hd | hd | hd
   · exact absurd (.inl hd) hf
   · refine .inl ⟨hd,?_⟩;cases neg with
     | true=>exact absurd (.inr (.inl ⟨hd,rfl⟩)) hf
     | false=>rfl
   · refine .inr ⟨hd,?_⟩;cases neg with
     | false=>exact absurd (.inr (.inr ⟨hd,rfl⟩)) hf
     | true=>rfl
theorem QW (neg:Bool) {t:Rat} (ht:0<t):decide (sv neg t<0)=neg:=by
 cases neg with
 | true=>exact decide_eq_true (show -t<0 by grind)
 | false=>exact decide_eq_false (show ¬ t<0 by grind)
theorem QX {b p:Nat} (hb:2≤b) (hp:1≤p) {lo hi e:Int} {d:Nat} {neg:Bool} {t:Rat} (hl:lo≤hi) (ht:0<t) (h:Fit b p lo t e):ext b p hi (rd b p lo hi d (sv neg t))=sv neg (nV b p hi d neg (vl b (lY b d neg t e) e)):=by
 have e1:(if sv neg t<0 then -sv neg t else sv neg t)=t:=by
  cases neg with
  | true=>show (if -t<0 then - -t else -t)=t;rw [if_pos (by grind),Rat.neg_neg]
  | false=>show (if t<0 then -t else t)=t;rw [if_neg (by grind)]
 have e2:decide (sv neg t<0)=neg:=by
  cases neg with
  | true=>exact decide_eq_true (show -t<0 by grind)
  | false=>exact decide_eq_false (show ¬ t<0 by grind)
 have e3:sv neg t≠0:=by
  cases neg with
  | true=>exact fun h=>by have h : -t=0:=h;grind
  | false=>exact fun h=>by have h:t=0:=h;grind
 rw [yZ hb hp e3 (by rw [e1];exact h),e1,e2]
 exact xU hb hp d neg hl (rM hb d neg (Rat.le_of_lt ht) h)
theorem YB (w:Rat):sv (decide (w<0)) (if w<0 then -w else w)=w:=by
 by_cases h:w<0
 · rw [if_pos h,decide_eq_true h];show - -w=w;exact Rat.neg_neg w
 · rw [if_neg h,decide_eq_false h];rfl
theorem UN {b p:Nat} (hb:2≤b) (hp:1≤p) (k:Nat) {d:Nat} (hd:d=2∨d=3∨d=4) {lo hi hi2:Int} (hl:lo≤hi) {w:Rat} (hw:w≠0) (hov:∀ f,Fit b (p+k) (lo-k) (if w<0 then -w else w) f→f+1≤hi2)
  {n:Bool} {m e0:Int} (hv:rd b (p+k) (lo-k) hi2 d w = .fin n m e0):rd b p lo hi d (vf b (.fin n m e0))=rd b p lo hi d w:=by
 have hs:=Bh hw
 have hsw:=YB w
 obtain ⟨f,hf⟩:=kW hb (show 1≤p+k by omega) (Rat.le_of_lt hs) (lo-k)
 obtain ⟨e,he⟩:=kW hb hp (Rat.le_of_lt hs) lo
 have h1:=yZ (hi:=hi2) (d:=d) hb (by omega) hw hf
 rw [hv] at h1
 have ho:=hov f hf
 generalize (if w<0 then -w else w)=s at *
 generalize decide (w<0)=neg at *
 have hm:=rM hb d neg (Rat.le_of_lt hs) hf
 have hn2:(nK b (p+k) (lY b d neg s f) f).2≤hi2:=by unfold nK;split<;>(show _≤hi2)<;>omega
 have hvl:=oQ hb (show 1≤p+k by omega) (lY b d neg s f) f
 unfold res at h1
 split at h1
 · cases h1
 · next hz =>
   first | rw [if_pos hn2] at h1 | skip
   obtain ⟨hq1,hq2,hq3⟩:=Fl.fin.inj h1
   rw [hq1,hq2,hq3]
   have hnf:=hm.nf hb (by omega) hz
   have ht:0<vl b (lY b d neg s f) f:=by rw [← hvl];exact (kX hb).2 hnf.2.1
   obtain ⟨e',he'⟩:=kW hb hp (Rat.le_of_lt ht) lo
   have hkey:=QV hb hp k d neg hd (Rat.le_of_lt hs) he hf he'
   have a1:=QX (hi:=hi) (d:=d) (neg:=neg) hb hp hl ht he'
   have a2:=QX (hi:=hi) (d:=d) (neg:=neg) hb hp hl hs he
   rw [hkey,← a2,hsw] at a1
   show rd b p lo hi d (sv neg (vl b (nK b (p+k) (lY b d neg s f) f).1 (nK b (p+k) (lY b d neg s f) f).2))=_
   rw [hvl]
   rcases UK hb hp (jS hb hp hl) (jS hb hp hl) a1 with h | ⟨x,y,h2,h3⟩
   · exact h
   · rw [h2,h3]
     have h4:=(h2 ▸ vL hb hp lo hi d _).Er
     have h5:=(h3 ▸ vL hb hp lo hi d w).Er
     rw [h4,h5,← hsw,QW neg ht,QW neg hs]
theorem Ol {b p:Nat} (hb:2≤b) (hp:1≤p) (k:Nat) {d:Nat} (hd:d=2∨d=3∨d=4) {lo hi hi2:Int} (hl:lo≤hi) {w:Rat} {n:Bool} (hv:rd b (p+k) (lo-k) hi2 d w = .zero n):∃ j,rd b p lo hi d w = .zero j:=by
 by_cases hw:w=0
 · exact ⟨false,by rw [hw];exact uM hb hp⟩
 have hs:=Bh hw
 obtain ⟨f,hf⟩:=kW hb (show 1≤p+k by omega) (Rat.le_of_lt hs) (lo-k)
 obtain ⟨e,he⟩:=kW hb hp (Rat.le_of_lt hs) lo
 have h1:=yZ (hi:=hi2) (d:=d) hb (by omega) hw hf
 have h2:=yZ (hi:=hi) (d:=d) hb hp hw he
 rw [hv] at h1
 have hz:=(Iu h1.symm).2
 generalize (if w<0 then -w else w)=s at *
 generalize decide (w<0)=neg at *
 have hvl:=oQ hb (show 1≤p+k by omega) (lY b d neg s f) f
 rw [hz,nA] at hvl
 have h3:lY b d neg s f=0:=by
  rcases Int.lt_trichotomy (lY b d neg s f) 0 with h | h | h
  · have:=rM hb d neg (Rat.le_of_lt hs) hf
    have:=this.2.1;omega
  · exact h
  · have:=(kX hb (e:=f)).2 h;grind
 have h0:lY b d neg s e=0:=by
  by_cases hff:d=2∨d=3∧neg=true∨d=4∧neg=false
  · rw [tu _ _ hff] at h3 ⊢
    have h4:=Cj hb hp k (Rat.le_of_lt hs) he hf
    rw [h3,nA] at h4
    have h5:=jw hb (Rat.le_of_lt hs) e
    rcases Int.lt_or_eq_of_le h5 with h | h
    · have:=(kX hb (e:=e)).2 h;grind
    · exact h.symm
  · exfalso
    have hg:d=3∧neg=false∨d=4∧neg=true:=by
     rcases hd with hd | hd | hd
     · exact absurd (.inl hd) hff
     · refine .inl ⟨hd,?_⟩;cases neg with
       | true=>exact absurd (.inr (.inl ⟨hd,rfl⟩)) hff
       | false=>rfl
     · refine .inr ⟨hd,?_⟩;cases neg with
       | false=>exact absurd (.inr (.inr ⟨hd,rfl⟩)) hff
       | true=>rfl
    have:=Mi (p:=p) hb (s:=s) (e:=f) hg
    rw [h3,nA] at this
    grind
 rw [h0] at h2
 have hk:=Nat.pow_pos (n:=p) (show 0<b by omega)
 have hn:(nK b p 0 e).1=0:=by unfold nK;rw [if_neg (by omega)]
 unfold res at h2
 rw [if_pos hn] at h2
 exact ⟨neg,h2⟩
end Go.Proofs.YtgcieamfidoaoaaGreatDoor.Fm
namespace Go.Proofs.YtgcieamfidoaoaaGreatDoor
open Go.RowKit 
set_option maxRecDepth 100000
theorem iK (w:World) (vn vd:Value) (n d:Int) (q:Rat) (hn:Zn w vn n) (hd:Zn w vd d) (L M:Nat) (ln:Sz n L) (ld:Sz d M) (hL:L≤100) (hM:M≤100) (hd0:d≠0) (hq:Rat.divInt n d=q) :
  Calls Tryz.prog 66 #[vn,vd] w fun e w'=>∃ u,e = .returned u∧Qn w' u q L M∧Pl.Ex w w':=by
 obtain ⟨An,cn,rfl,un⟩:=hn
 obtain ⟨Ad,cd,rfl,ud⟩:=hd
 refine Pl.dF (n:=14) (vs:=[.agg #[.bool (decide (n<0)),.slice An (limbs (Int.natAbs n)).length cn],.agg #[.bool (decide (d<0)),.slice Ad (limbs (Int.natAbs d)).length cd]]) Tryz.func66 rfl (by kernel_rfl) (by simp) ?_
 repeat refine Pl.aG ?_
 refine Pl.aB (by kernel_rfl) ?_
 refine Pl.oW (cs:=[.bool (decide (n<0)),.slice An (limbs (Int.natAbs n)).length cn]) rfl rfl rfl rfl rfl rfl (fun Y hY=>trivial) ?_
 intro N1 w1 hE1 vM eX
 have DT:=Pl.Cb.lt eX
 have Tx:=Pl.Ex.size hE1
 refine Pl.oW (cs:=[.bool (decide (d<0)),.slice Ad (limbs (Int.natAbs d)).length cd]) rfl rfl rfl rfl rfl rfl (fun Y hY=>trivial) ?_
 intro N2 w2 hE2 zV eO
 have Iw:=Pl.Cb.lt eO
 have UO:=Pl.Ex.size hE2
 refine Pl.mI (z:=.agg #[.bool false,.slice none 0 0,.slice none 0 0]) (by kernel_rfl) rfl rfl rfl rfl (fun Y hY=>trivial) ?_
 intro N3 w3 gF Iy eF
 have QY:=Pl.Cb.lt eF
 have UQ:=Pl.Ex.size gF
 replace eF:Pl.Cb w3 N3 36 [.bool false,.slice none 0 0,.slice none 0 0]:=eF
 refine Pl.aH ?_
 repeat refine Pl.aG ?_
 refine Pl.aB (by kernel_rfl) ?_
 refine Pl.jA (part:=[.bool (decide (n<0)),.slice An (limbs (Int.natAbs n)).length cn]) (Pl.Cb.ex eX (Pl.Ex.trans hE2 gF)) rfl Tryz.underlying34 rfl (by kernel_rfl) trivial rfl rfl rfl rfl rfl ?_
 refine Pl.jA (part:=[.bool (decide (d<0)),.slice Ad (limbs (Int.natAbs d)).length cd]) (Pl.Cb.ex eO gF) rfl Tryz.underlying34 rfl (by kernel_rfl) trivial rfl rfl rfl rfl rfl ?_
 refine Pl.bX rfl rfl rfl rfl rfl (Pl.en Tryz.func59) ?_
 refine Calls.mono (kK _ _ _ n d (Zn.of (Un.below un (Pl.Ex.trans hE1 (Pl.Ex.trans hE2 gF)))) (Zn.of (Un.below ud (Pl.Ex.trans hE1 (Pl.Ex.trans hE2 gF)))) L M ln ld hL hM hd0) ?_
 rintro e w4 ⟨vq,rfl,vO,kM⟩
 rw [hq] at vO
 obtain ⟨A1,c1,A2,c2,rfl,u1,u2,z1,z2⟩:=vO
 have WC:=Pl.Ex.size kM
 refine ⟨_,rfl,trivial,?_⟩
 refine Pl.jB trivial rfl ?_
 refine Pl.mI (z:=.agg #[.bool false,.slice none 0 0,.slice none 0 0]) (by kernel_rfl) rfl rfl rfl rfl (fun Y hY=>trivial) ?_
 intro N4 w5 nC QZ jO
 have YC:=Pl.Cb.lt jO
 have Z4:=Pl.Ex.size nC
 replace jO:Pl.Cb w5 N4 36 [.bool false,.slice none 0 0,.slice none 0 0]:=jO
 refine Pl.lI (new:=[.bool (decide ((Rat.num q)<0)),.slice A1 (limbs (Int.natAbs (Rat.num q))).length c1,.slice A2 (limbs (Rat.den q)).length c2]) jO (by kernel_rfl) rfl (by simp [Value.oneCell']) rfl rfl rfl rfl rfl rfl (fun Y hY=>trivial) ?_
 intro w6 zW oZ
 have mG:=Pl.Ex.xs nC zW (by omega)
 have Ty:=Pl.Xs.size zW
 refine Pl.jB trivial rfl ?_
 refine Pl.aH ?_
 repeat refine Pl.aG ?_
 refine Pl.aB (by kernel_rfl) ?_
 refine Pl.jA (part:=[.bool (decide ((Rat.num q)<0)),.slice A1 (limbs (Int.natAbs (Rat.num q))).length c1,.slice A2 (limbs (Rat.den q)).length c2]) oZ rfl Tryz.underlying36 rfl (by kernel_rfl) trivial rfl rfl rfl rfl rfl ?_
 refine Pl.lI (new:=[.bool (decide ((Rat.num q)<0)),.slice A1 (limbs (Int.natAbs (Rat.num q))).length c1,.slice A2 (limbs (Rat.den q)).length c2]) (Pl.Cb.ex eF (Pl.Ex.trans kM mG)) (by kernel_rfl) rfl (by simp [Value.oneCell']) rfl rfl rfl rfl rfl rfl (fun Y hY=>trivial) ?_
 intro w7 yQ mV
 have pg:=Pl.Ex.xs (Pl.Ex.trans gF (Pl.Ex.trans kM mG)) yQ (by omega)
 have Tz:=Pl.Xs.size yQ
 have Km:=Pl.Cb.xs oZ yQ (by simp;omega)
 refine Pl.aH ?_
 have k5:=Un.xs (Un.below u1 mG) yQ (Pl.Cb.ex eF (Pl.Ex.trans kM mG)) (by simp)
 have k6:=Un.xs (Un.below u2 mG) yQ (Pl.Cb.ex eF (Pl.Ex.trans kM mG)) (by simp)
 repeat refine Pl.aG ?_
 exact Pl.lJ rfl rfl mV Tryz.underlying36 rfl (by kernel_rfl) (⟨_,rfl,(Qn.mk k5 k6 z1 z2),(Pl.Ex.trans hE1 (Pl.Ex.trans hE2 pg))⟩)
end Go.Proofs.YtgcieamfidoaoaaGreatDoor
namespace Go.Proofs.YtgcieamfidoaoaaGreatDoor
open Go.RowKit Rf
set_option maxRecDepth 100000
theorem oq (w:World) (vn:Value) (n:Int) (L:Nat) (hn:Zn w vn n) (ln:Sz n L) :
  Calls Tryz.prog 54 #[vn] w fun e w'=>∃ u,e = .returned u∧Qn w' u ((n:Int):Rat) L 1∧Pl.Ex w w':=by
 obtain ⟨An,cn,rfl,un⟩:=hn
 refine Pl.dF (n:=6) (vs:=[.agg #[.bool (decide (n<0)),.slice An (limbs (Int.natAbs n)).length cn]]) Tryz.func54 rfl (by kernel_rfl) (by simp) ?_
 repeat refine Pl.aG ?_
 refine Pl.aB (by kernel_rfl) ?_
 refine Pl.oW (cs:=[.bool (decide (n<0)),.slice An (limbs (Int.natAbs n)).length cn]) rfl rfl rfl rfl rfl rfl (fun Y hY=>trivial) ?_
 intro N1 w1 hE1 vM eX
 have DT:=Pl.Cb.lt eX
 have Tx:=Pl.Ex.size hE1
 refine Pl.mI (z:=.agg #[.bool false,.slice none 0 0,.slice none 0 0]) (by kernel_rfl) rfl rfl rfl rfl (fun Y hY=>trivial) ?_
 intro N2 w2 hE2 zV eO
 have Iw:=Pl.Cb.lt eO
 have UO:=Pl.Ex.size hE2
 replace eO:Pl.Cb w2 N2 36 [.bool false,.slice none 0 0,.slice none 0 0]:=eO
 refine Pl.aH ?_
 repeat refine Pl.aG ?_
 refine Pl.aB (by kernel_rfl) ?_
 refine Pl.jA (part:=[.bool (decide (n<0)),.slice An (limbs (Int.natAbs n)).length cn]) (Pl.Cb.ex eX hE2) rfl Tryz.underlying34 rfl (by kernel_rfl) trivial rfl rfl rfl rfl rfl ?_
 refine Pl.WE (e := 57) (n:=1) [.int .u32 1] rfl rfl rfl rfl (by kernel_rfl) (fun Y hY=>trivial) ?_
 intro N3 w3 gF Iy eF
 have QY:=Pl.Cb.lt eF
 have UQ:=Pl.Ex.size gF
 refine Pl.mo (.agg #[.bool (decide (n<0)),.slice An (limbs (Int.natAbs n)).length cn,.slice (some ⟨N3,0,none⟩) 1 1]) trivial rfl rfl rfl rfl (fun X=>by kernel_rfl) ?_
 refine Pl.lI (new:=[.bool (decide (n<0)),.slice An (limbs (Int.natAbs n)).length cn,.slice (some ⟨N3,0,none⟩) 1 1]) (Pl.Cb.ex eO gF) (by kernel_rfl) rfl (by simp [Value.oneCell']) rfl rfl rfl rfl rfl rfl (fun Y hY=>trivial) ?_
 intro w4 UR Ck
 have kM:=Pl.Ex.xs (Pl.Ex.trans hE2 gF) UR (by omega)
 have WC:=Pl.Xs.size UR
 have mV:=Pl.Cb.xs eF UR (by simp;omega)
 refine Pl.aH ?_
 have hl4:=Un.one (x:=1) mV rfl (by omega)
 repeat refine Pl.aG ?_
 exact Pl.lJ rfl rfl Ck Tryz.underlying36 rfl (by kernel_rfl) (⟨_,rfl,Qn.of (q:=((n:Int):Rat)) rfl rfl (Un.below un (Pl.Ex.trans hE1 kM)) hl4 ln (show Sn 1 1 from Sn.of (by decide)),(Pl.Ex.trans hE1 kM)⟩)
theorem Kn (w:World) (va vb:Value) (p q:Rat) (L M L2 M2:Nat) (ha:Qn w va p L M) (hb:Qn w vb q L2 M2) (K N:Nat) (h1:L+L2≤K) (h3:M+M2≤N) (hK:K≤100) (hN:N≤100) :
  Calls Tryz.prog 98 #[va,vb] w fun e w'=>∃ u,e = .returned u∧Qn w' u (p*q) K N∧Pl.Ex w w':=by
 obtain ⟨Aa,ca,Ba,ba,rfl,ua,ta,za,ya⟩:=ha
 obtain ⟨Ab,cb,Bb,bb,rfl,ub,tb,zb,yb⟩:=hb
 refine Rf.aA (n:=18) [.a [.c 0 0,.c 0 1,.c 0 2],.a [.c 1 0,.c 1 1,.c 1 2]] [[.bool (decide (Rat.num p<0)),.slice Aa (limbs (Rat.num p).natAbs).length ca,.slice Ba (limbs (Rat.den p)).length ba],[.bool (decide (Rat.num q<0)),.slice Ab (limbs (Rat.num q).natAbs).length cb,.slice Bb (limbs (Rat.den q)).length bb]] [(0,(pI p L M).S),(1,(pI q L2 M2).S)] Tryz.func98 rfl (by kernel_rfl) rfl rfl ⟨RS.in ⟨Aa,ca,Ba,ba,rfl,ua,ta,za,ya⟩,RS.in ⟨Ab,cb,Bb,bb,rfl,ub,tb,zb,yb⟩,trivial⟩ ?_
 refine Rf.HX aa 1 0 rfl ?_
 refine Rf.aQ none fo ?_
 refine Rf.aD aa 14 3 rfl ?_
 refine Rf.ak 2 _ _ rfl (Pl.en Tryz.func79) (fun α γ w h=>gz 2 (Ci _ _ _ (Rat.num p) (Rat.num q) (iW (h.r 0 rfl)).1 (iW (h.r 1 rfl)).1 (Sz.le za (by omega)) (Sz.le zb (by omega)) _ rfl)) ?_
 refine Rf.aD aa 14 3 rfl ?_
 refine Rf.ak 3 _ _ rfl (Pl.en Tryz.func68) (fun α γ w h=>gz 3 (fA _ _ (Rat.den p) (iW (h.r 0 rfl)).2.2.1)) ?_
 refine Rf.aD aa 14 3 rfl ?_
 refine Rf.ak 4 _ _ rfl (Pl.en Tryz.func68) (fun α γ w h=>gz 4 (fA _ _ (Rat.den q) (iW (h.r 1 rfl)).2.2.1)) ?_
 refine Rf.ak 5 _ _ rfl (Pl.en Tryz.func79) (fun α γ w h=>gz 5 (Ci _ _ _ (((Rat.den p):Nat):Int) (((Rat.den q):Nat):Int) (h.r 3 rfl) (h.r 4 rfl) (Sz.le (Sn.sz ya) (by omega)) (Sz.le (Sn.sz yb) (by omega)) _ rfl)) ?_
 refine Rf.ak 6 _ _ rfl (Pl.en Tryz.func66) (fun α γ w h=>iP 6 (iK _ _ _ ((Rat.num p)*(Rat.num q)) ((((Rat.den p):Nat):Int)*(((Rat.den q):Nat):Int)) (p*q) (h.r 2 rfl) (h.r 5 rfl) (L+L2) (M+M2) (Sz.mul za zb (by omega):Sz ((Rat.num p)*(Rat.num q)) (L+L2)) (Sz.mul (Sn.sz ya) (Sn.sz yb) (by omega):Sz ((((Rat.den p):Nat):Int)*(((Rat.den q):Nat):Int)) (M+M2)) (by omega) (by omega) (Int.mul_ne_zero (show ((p.den:Nat):Int)≠0 by have:=p.den_pos;omega) (show ((q.den:Nat):Int)≠0 by have:=q.den_pos;omega)) (by rw [← Int.natCast_mul];exact Rq.YA p q))) ?_
 refine Rf.aD aa 14 3 rfl ?_
 refine Rf.aW (by kernel_rfl) ?_
 refine Rf.FC [4] [2] [6] rfl rfl rfl ?_
 repeat refine Rf.aO ?_
 exact Rf.aI aa (fun _ _ h=>h) rfl rfl (fun α γ w h=>⟨_,rfl,(Qn.le (h.r 6 rfl) (by omega) (by omega)),h.ex⟩)
end Go.Proofs.YtgcieamfidoaoaaGreatDoor
namespace Go.Proofs.YtgcieamfidoaoaaGreatDoor
open Go.RowKit
set_option maxRecDepth 100000
theorem mg (w:World) (va vb:Value) (n m k K:Nat) (hK:K≤1000) (ha:Un w va n) (hb:Un w vb m) (hn:(limbs n).length≤K) (hm:(limbs m).length≤K) (hk:n*m=k) :
  Calls Tryz.prog 82 #[va,vb] w fun e w'=>∃ u,e = .returned u∧Un w' u k∧Ext w w':=by
 refine (fH w va vb _ _ _ _ ha hb rfl rfl (by omega) (by omega)).mono ?_
 rw [aJ,aJ,hk]
 rintro e w' ⟨⟨u,h1,h2⟩,h3⟩
 exact ⟨u,h1,h2,h3⟩
theorem xL (K:Nat) (hK:K≤1000) (w:World) (va:Value) (a n:Nat) (hu:Un w va a) (h1:1≤a) (hal:(limbs a).length≤K) (hlim:(limbs (a^n)).length≤K) (hn:n≤100000) (k:Nat) (hk:a^n=k) :
  Calls Tryz.prog 83 #[va,.int .i64 (n:Nat)] w fun e w'=>∃ u,e = .returned u∧Un w' u k∧Ext w w':=by
 subst hk
 have QE:Hid (∀ x,x=a→(limbs x).length≤K):=fun x e=>by rw [e];exact hal
 have NY:Hid (∀ e,e≤n→(limbs (a^e)).length≤K):=fun e he=>Sn.down (n:=a^n) (K:=K) hlim (Nat.pow_le_pow_right h1 he)
 have HS:=Lib.hid (fun W va vb n m k=>mg W va vb n m k K hK)
 clear hlim h1 hK
 obtain ⟨A,ca,rfl,hca⟩:=U.shape (U.dX hu)
 have hE0:=(Ext.refl w).alloc (.cells #[.int .u32 1] 57)
 have hone:Un (w.alloc (.cells #[.int .u32 1] 57)) (.slice (some ⟨w.heap.size,0,none⟩) 1 1) 1:=uI w _ rfl 1 (by decide) (by decide)
 have hu1:Un (w.alloc (.cells #[.int .u32 1] 57)) (.slice A (limbs a).length ca) a:=U.below (U.dX hu) hE0
 clear hal
 generalize (limbs a).length=la at *
 clear hu
 go_enter Tryz.func83,Tryz.ntmps83
 go_wp2
 go_loopw [6,5] (fun t s wr=>∃ (j:Nat),j≤n∧t = .int .i64 (j:Nat)∧Un wr s (a^j)∧Un wr (.slice A la ca) a∧Ext w wr) (fun t _ _=>n-(intOf t).toNat)
 case atStart=>exact ⟨0,Nat.zero_le _,rfl,by rw [Nat.pow_zero];exact hone,hu1,hE0⟩
 case round =>
  clear hone hu1 hE0
  obtain ⟨j,hj,rfl,hz,uL,hE⟩:=hrel
  obtain ⟨A2,c2,rfl,hcc⟩:=U.shape (U.dX hz)
  by_cases hlt:j<n
  · have hM:=Lib.hid (HS.out wr _ _ (a^j) a (a^(j+1)) hz uL (NY.out j hj) (QE.out a rfl) (Nat.pow_succ a j).symm)
    generalize (limbs (a^j)).length=lz at *
    clear hz
    go_wp2_with (fail)
    refine hM.out.mono ?_
    rintro e w2 ⟨u,rfl,hu2,hB⟩
    replace uL:=U.below (U.dX uL) hB
    replace hE:=hE.below hB
    clear hM hB
    go_wp2
    go_roundw
    case rel=>exact ⟨j+1,by omega,by go_num,hu2,uL,hE⟩
    case measure=>simp [intOf];omega
  · obtain rfl:j=n:=by omega
    have HF:Hid (∃ u',Ending.returned (.slice A2 (limbs (a^j)).length c2) = .returned u'∧Un wr u' (a^j)∧Ext w wr):=⟨_,rfl,hz,hE⟩
    clear hz hE
    go_wp2
    go_ret
    exact HF.out
end Go.Proofs.YtgcieamfidoaoaaGreatDoor
namespace Go.Proofs.YtgcieamfidoaoaaGreatDoor
open Go.RowKit Rf Fm
set_option maxRecDepth 100000
theorem YD (p q:Rat):Rat.divInt (p.num*((q.den:Nat):Int)) (q.num*((p.den:Nat):Int))=p/q:=by
 rw [Rat.div_def]
 conv=>rhs;rw [← Rat.num_divInt_den p,← Rat.num_divInt_den q,Rat.inv_divInt,Rat.divInt_mul_divInt,Int.mul_comm ((p.den:Nat):Int)]
theorem nM {n:Nat} {neg:Bool} {K:Nat} (h:Sn n K):Sz (sg neg n) K:=by show (limbs (sg neg n).natAbs).length≤K;rw [lZ];exact h
theorem xM {b:Nat} (hb:b=2∨b=10):Sn b 1:=Sn.of (by rcases hb with h | h<;>rw [h]<;>decide)
theorem Ko (b k:Nat):((((b^k:Nat):Int)):Rat)=bp b (k:Int):=(ry b k).symm
theorem UT {b:Nat} (hb:2≤b) (q:Rat) (k:Nat):q/(((b^k:Nat):Int):Rat)=q*bp b (-(k:Int)):=by
 have h:=y5 hb (k:Int)
 have hn:=Md hb (k:Int)
 rw [Ko,Rat.div_def]
 congr 1
 rw [← Rat.mul_one (bp b (k:Int))⁻¹,← h,← Rat.mul_assoc,Rat.inv_mul_cancel _ hn,Rat.one_mul]
theorem YE {b:Nat} (hb:2≤b) (k:Nat):((((b^k:Nat):Int)):Rat)≠0:=by rw [Ko];exact Md hb _
theorem Iz (w:World) (va vb:Value) (p q:Rat) (L M L2 M2:Nat) (ha:Qn w va p L M) (hb:Qn w vb q L2 M2) (K N:Nat) (h1:L+M2≤K) (h2:L2+M≤N) (hK:K≤100) (hN:N≤100) (hq0:q≠0) :
  Calls Tryz.prog 99 #[va,vb] w fun e w'=>∃ u,e = .returned (.tuple #[u,.int .i64 0])∧Qn w' u (p/q) K N∧Pl.Ex w w':=by
 obtain ⟨Aa,ca,Ba,ba,rfl,ua,ta,za,ya⟩:=ha
 obtain ⟨Ab,cb,Bb,bb,rfl,ub,tb,zb,yb⟩:=hb
 have hdp:=p.den_pos
 have hqn:q.num≠0:=fun h=>hq0 (Rat.num_eq_zero.1 h)
 refine Rf.aA (n:=26) [.a [.c 0 0,.c 0 1,.c 0 2],.a [.c 1 0,.c 1 1,.c 1 2]] [[.bool (decide (Rat.num p<0)),.slice Aa (limbs (Rat.num p).natAbs).length ca,.slice Ba (limbs (Rat.den p)).length ba],[.bool (decide (Rat.num q<0)),.slice Ab (limbs (Rat.num q).natAbs).length cb,.slice Bb (limbs (Rat.den q)).length bb]] [(0,(pI p L M).S),(1,(pI q L2 M2).S)] Tryz.func99 rfl (by kernel_rfl) rfl rfl ⟨RS.in ⟨Aa,ca,Ba,ba,rfl,ua,ta,za,ya⟩,RS.in ⟨Ab,cb,Bb,bb,rfl,ub,tb,zb,yb⟩,trivial⟩ ?_
 refine Rf.HX aa 1 0 rfl ?_
 refine Rf.aQ none fo ?_
 refine Rf.aD aa 19 3 rfl ?_
 refine Rf.ak 2 _ _ rfl (Pl.en Tryz.func68) (fun α γ w h=>gz 2 (fA _ _ (Rat.den q) (iW (h.r 1 rfl)).2.2.1)) ?_
 refine Rf.ak 3 _ _ rfl (Pl.en Tryz.func79) (fun α γ w h=>gz 3 (Ci _ _ _ (Rat.num p) (((Rat.den q):Nat):Int) (iW (h.r 0 rfl)).1 (h.r 2 rfl) (Sz.le za (by omega)) (Sz.le (Sn.sz yb) (by omega)) _ rfl)) ?_
 refine Rf.aD aa 19 3 rfl ?_
 refine Rf.ak 4 _ _ rfl (Pl.en Tryz.func68) (fun α γ w h=>gz 4 (fA _ _ (Rat.den p) (iW (h.r 0 rfl)).2.2.1)) ?_
 refine Rf.ak 5 _ _ rfl (Pl.en Tryz.func79) (fun α γ w h=>gz 5 (Ci _ _ _ (Rat.num q) (((Rat.den p):Nat):Int) (iW (h.r 1 rfl)).1 (h.r 4 rfl) (Sz.le zb (by omega)) (Sz.le (Sn.sz ya) (by omega)) _ rfl)) ?_
 refine Rf.ak 6 (pI (Rat.divInt ((Rat.num p)*(((Rat.den q):Nat):Int)) ((Rat.num q)*(((Rat.den p):Nat):Int))) (L+M2) (L2+M)) (.t [.a [.c 6 0,.c 6 1,.c 6 2],vI 0]) rfl (Pl.en Tryz.func59) (fun α γ w h=>nJ 6 (kK _ _ _ ((Rat.num p)*(((Rat.den q):Nat):Int)) ((Rat.num q)*(((Rat.den p):Nat):Int)) (h.r 3 rfl) (h.r 5 rfl) (L+M2) (L2+M) (Sz.mul za (Sn.sz yb) (by omega):Sz ((Rat.num p)*(((Rat.den q):Nat):Int)) (L+M2)) (Sz.mul zb (Sn.sz ya) (by omega):Sz ((Rat.num q)*(((Rat.den p):Nat):Int)) (L2+M)) (by omega) (by omega) (Int.mul_ne_zero hqn (by omega)))) ?_
 refine Rf.aD aa 19 3 rfl ?_
 refine Rf.aW (by kernel_rfl) ?_
 refine Rf.aP [4,5,6,7] [2,3] [6] rfl ?_
 refine Rf.HX aa 1 4 rfl ?_
 exact Rf.aI aa (fun _ _ h=>h) rfl rfl (fun α γ w h=>⟨_,rfl,by rw [← YD];exact Qn.le (h.r 6 rfl) (by omega) (by omega),h.ex⟩)
theorem bg (w:World) (b p k:Nat) (lo hi z:Int) (hb:b=2∨b=10) (hz:z=((k:Nat):Int)) (hk:k≤303) :
  Calls Tryz.prog 36 #[.agg #[.int .i64 ((b:Nat):Int),.int .i64 ((p:Nat):Int),.int .i64 lo,.int .i64 hi],.int .i64 z] w fun e w'=>∃ u,e = .returned u∧Un w' u (b^k)∧Pl.Ex w w':=by
 have hb2:2≤b∧b≤10:=by omega
 have hpk:b^k=b^k:=rfl
 subst hz
 refine Rf.aA (n:=11) [.a [vI ((b:Nat):Int),vI ((p:Nat):Int),vI lo,vI hi],vI ((k:Nat):Int)] [] [] Tryz.func36 rfl (by kernel_rfl) rfl rfl trivial ?_
 refine Rf.bu aa 1 0 rfl ?_
 refine Rf.oO ((b:Nat):Int) Tryz.underlying57 (by kernel_rfl) (Pl.w32 (by omega) (by omega)) rfl rfl rfl rfl rfl ?_
 refine Rf.mH (e := 57) (m:=1) [.int .u32 ((b:Nat):Int)] 0 (dW b) rfl rfl rfl (fun _ _=>rfl) (fun α γ X=>by kernel_rfl) rfl (fun N w k=>Un.one (x:=b) k rfl (by omega)) ?_
 refine Rf.ay aa 1 rfl ?_
 refine Rf.aC 1 _ _ rfl (Pl.en Tryz.func83) (fun α γ w h=>dO 1 (xL 78 (by decide) _ _ b k (h.r 0 rfl) (by omega) (Nat.le_trans (xM hb) (by decide)) (Nat.le_trans (bK hb (by omega):Sn (b^k) 38) (by decide)) (by omega) _ rfl)) ?_
 refine Rf.HY aa 0 1 rfl ?_
 exact Rf.aI aa (fun _ _ h=>h) rfl rfl (fun α γ w h=>⟨_,rfl,h.r 1 rfl,h.ex⟩)
theorem oU (w:World) (p:Nat) (lo hi:Int) (hf:fT 2 p lo hi) :
  Calls Tryz.prog 14 #[.agg #[.int .i64 2,.int .i64 ((p:Nat):Int),.int .i64 lo,.int .i64 hi]] w fun e w'=>e = .returned (.bool true)∧Pl.Ex w w':=by
 have f1:=hf.p1
 have f2:=hf.ku
 have f3:=hf.l
 have f4:=hf.l1
 have f5:=hf.h1
 refine Rf.aA (n:=38) [.a [vI 2,vI ((p:Nat):Int),vI lo,vI hi]] [] [] Tryz.func14 rfl (by kernel_rfl) rfl rfl trivial ?_
 refine Rf.bu aa 1 0 rfl ?_
 refine Rf.ah (v:=.bool true) (fun X=>aM (by decide) X) rfl ?_
 refine Rf.ay aa 1 rfl ?_
 refine Rf.ah (v:=.bool true) (fun X=>bS (by omega) X) rfl ?_
 refine Rf.ay aa 1 rfl ?_
 refine Rf.ah (v:=.bool true) (fun X=>cO (by omega) X) rfl ?_
 refine Rf.ay aa 1 rfl ?_
 refine Rf.ah (v:=.bool true) (fun X=>cO (by omega) X) rfl ?_
 refine Rf.ay aa 1 rfl ?_
 refine Rf.ah (v:=.bool true) (fun X=>bS (by omega) X) rfl ?_
 refine Rf.ay aa 1 rfl ?_
 refine Rf.ah (v:=.bool true) (fun X=>cO (by omega) X) rfl ?_
 refine Rf.HY aa 0 1 rfl ?_
 exact Rf.aI aa (fun _ _ h=>h) rfl rfl (fun α γ w h=>⟨rfl,h.ex⟩)
theorem mR (w:World) (p:Nat) (lo hi:Int) (hf:fT 10 p lo hi) :
  Calls Tryz.prog 14 #[.agg #[.int .i64 10,.int .i64 ((p:Nat):Int),.int .i64 lo,.int .i64 hi]] w fun e w'=>e = .returned (.bool true)∧Pl.Ex w w':=by
 have f1:=hf.p1
 have f2:=hf.ku
 have f3:=hf.l
 have f4:=hf.l1
 have f5:=hf.h1
 refine Rf.aA (n:=38) [.a [vI 10,vI ((p:Nat):Int),vI lo,vI hi]] [] [] Tryz.func14 rfl (by kernel_rfl) rfl rfl trivial ?_
 refine Rf.bu aa 1 0 rfl ?_
 refine Rf.ah (v:=.bool false) (fun X=>aK (by decide) X) rfl ?_
 refine Rf.ay aa 1 rfl ?_
 refine Rf.ah (v:=.bool true) (fun X=>aM (by decide) X) rfl ?_
 refine Rf.ay aa 1 rfl ?_
 refine Rf.ah (v:=.bool true) (fun X=>bS (by omega) X) rfl ?_
 refine Rf.ay aa 1 rfl ?_
 refine Rf.ah (v:=.bool true) (fun X=>cO (by omega) X) rfl ?_
 refine Rf.ay aa 1 rfl ?_
 refine Rf.ah (v:=.bool true) (fun X=>cO (by omega) X) rfl ?_
 refine Rf.ay aa 1 rfl ?_
 refine Rf.ah (v:=.bool true) (fun X=>bS (by omega) X) rfl ?_
 refine Rf.ay aa 1 rfl ?_
 refine Rf.ah (v:=.bool true) (fun X=>cO (by omega) X) rfl ?_
 refine Rf.HY aa 0 1 rfl ?_
 exact Rf.aI aa (fun _ _ h=>h) rfl rfl (fun α γ w h=>⟨rfl,h.ex⟩)
theorem dh (w:World) (b p:Nat) (lo hi:Int) (hf:fT b p lo hi) :
  Calls Tryz.prog 14 #[.agg #[.int .i64 ((b:Nat):Int),.int .i64 ((p:Nat):Int),.int .i64 lo,.int .i64 hi]] w fun e w'=>e = .returned (.bool true)∧Pl.Ex w w':=by
 rcases hf.r with rfl | rfl
 · exact oU w p lo hi hf
 · exact mR w p lo hi hf
end Go.Proofs.YtgcieamfidoaoaaGreatDoor
namespace Go.Proofs.YtgcieamfidoaoaaGreatDoor
open Go.RowKit Rf Fm
set_option maxRecDepth 100000
theorem Q0 (w:World) (va:Value) (q:Rat) (L M:Nat) (ha:Qn w va q L M) (b p:Nat) (lo hi:Int) (hf:fT b p lo hi) (n:Int) (J:Nat) (hn:n.natAbs<8*J) (hJ:J≤38) (hL:L≤60) (hM:M≤60) (h0:0≤n) :
  Calls Tryz.prog 53 #[va,.agg #[.int .i64 ((b:Nat):Int),.int .i64 ((p:Nat):Int),.int .i64 lo,.int .i64 hi],.int .i64 n] w fun e w'=>∃ u,e = .returned u∧Qn w' u (q*bp b n) (L+J) (M+J)∧Pl.Ex w w':=by
 obtain ⟨Aa,ca,Ba,ba,rfl,ua,ta,za,ya⟩:=ha
 have f1:=hf.p1
 have f2:=hf.ku
 have f3:=hf.l
 have f4:=hf.l1
 have f5:=hf.h1
 have hb2:=hf.b2
 obtain ⟨k,rfl⟩:∃ k:Nat,n=(k:Int):=⟨n.toNat,by omega⟩
 refine Rf.aA (n:=30) [.a [.c 0 0,.c 0 1,.c 0 2],.a [vI ((b:Nat):Int),vI ((p:Nat):Int),vI lo,vI hi],vI ((k:Nat):Int)] [[.bool (decide (Rat.num q<0)),.slice Aa (limbs (Rat.num q).natAbs).length ca,.slice Ba (limbs (Rat.den q)).length ba]] [(0,(pI q L M).S)] Tryz.func53 rfl (by kernel_rfl) rfl rfl ⟨RS.in ⟨Aa,ca,Ba,ba,rfl,ua,ta,za,ya⟩,trivial⟩ ?_
 refine Rf.bu aa 1 0 rfl ?_
 refine Rf.ah (v:=.bool true) (fun X=>bS (by omega) X) rfl ?_
 refine Rf.HY aa 1 0 rfl ?_
 refine Rf.aQ none fo ?_
 refine Rf.aD aa 8 3 rfl ?_
 refine Rf.ak 1 _ _ rfl (Pl.en Tryz.func36) (fun α γ w h=>dO 1 (bg _ b p k lo hi _ hf.r rfl (by omega))) ?_
 refine Rf.ak 2 _ _ rfl (Pl.en Tryz.func55) (fun α γ w h=>gz 2 (kG _ false _ (limbs (b^k)) (h.r 1 rfl) (Nat.le_trans (bK hf.r (by omega):Sn (b^k) J) (by omega)) _ (aJ _) (((b^k):Nat):Int) rfl)) ?_
 refine Rf.ak 3 _ _ rfl (Pl.en Tryz.func54) (fun α γ w h=>iP 3 (oq _ _ (((b^k):Nat):Int) J (h.r 2 rfl) (Sn.sz (bK hf.r (by omega):Sn (b^k) J)))) ?_
 refine Rf.ak 4 _ _ rfl (Pl.en Tryz.func98) (fun α γ w h=>iP 4 (Kn _ _ _ q (((((b^k):Nat):Int):Int):Rat) L M J 1 (h.r 0 rfl) (h.r 3 rfl) (L+J) (M+1) (by omega) (by omega) (by omega) (by omega))) ?_
 refine Rf.aD aa 8 3 rfl ?_
 refine Rf.aW (by kernel_rfl) ?_
 refine Rf.aP [2,3,4,6] [0,1,2] [0,4] rfl ?_
 repeat refine Rf.aO ?_
 exact Rf.aI aa (fun _ _ h=>h) rfl rfl (fun α γ w h=>⟨_,rfl,by rw [← Ko];exact Qn.le (h.r 4 rfl) (by omega) (by omega),h.ex⟩)
theorem Q3 (w:World) (va:Value) (q:Rat) (L M:Nat) (ha:Qn w va q L M) (b p:Nat) (lo hi:Int) (hf:fT b p lo hi) (n:Int) (J:Nat) (hn:n.natAbs<8*J) (hJ:J≤38) (hL:L≤60) (hM:M≤60) (h0:n<0) :
  Calls Tryz.prog 53 #[va,.agg #[.int .i64 ((b:Nat):Int),.int .i64 ((p:Nat):Int),.int .i64 lo,.int .i64 hi],.int .i64 n] w fun e w'=>∃ u,e = .returned u∧Qn w' u (q*bp b n) (L+J) (M+J)∧Pl.Ex w w':=by
 obtain ⟨Aa,ca,Ba,ba,rfl,ua,ta,za,ya⟩:=ha
 have f1:=hf.p1
 have f2:=hf.ku
 have f3:=hf.l
 have f4:=hf.l1
 have f5:=hf.h1
 have hb2:=hf.b2
 obtain ⟨k,rfl⟩:∃ k:Nat,n = -(k:Int):=⟨(-n).toNat,by omega⟩
 refine Rf.aA (n:=30) [.a [.c 0 0,.c 0 1,.c 0 2],.a [vI ((b:Nat):Int),vI ((p:Nat):Int),vI lo,vI hi],vI (-((k:Nat):Int))] [[.bool (decide (Rat.num q<0)),.slice Aa (limbs (Rat.num q).natAbs).length ca,.slice Ba (limbs (Rat.den q)).length ba]] [(0,(pI q L M).S)] Tryz.func53 rfl (by kernel_rfl) rfl rfl ⟨RS.in ⟨Aa,ca,Ba,ba,rfl,ua,ta,za,ya⟩,trivial⟩ ?_
 refine Rf.bu aa 1 0 rfl ?_
 refine Rf.ah (v:=.bool false) (fun X=>gJ (by omega) X) rfl ?_
 refine Rf.HY aa 2 0 rfl ?_
 refine Rf.aQ none fo ?_
 refine Rf.aD aa 14 3 rfl ?_
 refine Rf.wz (.int .i64 ((k:Nat):Int)) rfl rfl rfl rfl rfl rfl rfl (fun X=>(qY (by omega) X).trans (by rw [Int.neg_neg])) ?_
 refine Rf.ak 1 _ _ rfl (Pl.en Tryz.func36) (fun α γ w h=>dO 1 (bg _ b p k lo hi _ hf.r rfl (by omega))) ?_
 refine Rf.ak 2 _ _ rfl (Pl.en Tryz.func55) (fun α γ w h=>gz 2 (kG _ false _ (limbs (b^k)) (h.r 1 rfl) (Nat.le_trans (bK hf.r (by omega):Sn (b^k) J) (by omega)) _ (aJ _) (((b^k):Nat):Int) rfl)) ?_
 refine Rf.ak 3 _ _ rfl (Pl.en Tryz.func54) (fun α γ w h=>iP 3 (oq _ _ (((b^k):Nat):Int) J (h.r 2 rfl) (Sn.sz (bK hf.r (by omega):Sn (b^k) J)))) ?_
 refine Rf.ak 4 (pI (q/(((((b^k):Nat):Int):Int):Rat)) (L+1) (J+M)) (.t [.a [.c 4 0,.c 4 1,.c 4 2],vI 0]) rfl (Pl.en Tryz.func99) (fun α γ w h=>nJ 4 (Iz _ _ _ q (((((b^k):Nat):Int):Int):Rat) L M J 1 (h.r 0 rfl) (h.r 3 rfl) (L+1) (J+M) (by omega) (by omega) (by omega) (by omega) (YE hb2 k))) ?_
 refine Rf.aD aa 14 3 rfl ?_
 refine Rf.aW (by kernel_rfl) ?_
 refine Rf.aP [6,7] [2,3] [4] rfl ?_
 refine Rf.HX aa 1 4 rfl ?_
 exact Rf.aI aa (fun _ _ h=>h) rfl rfl (fun α γ w h=>⟨_,rfl,by rw [← UT hb2];exact Qn.le (h.r 4 rfl) (by omega) (by omega),h.ex⟩)
theorem xV (w:World) (va:Value) (q:Rat) (L M:Nat) (ha:Qn w va q L M) (b p:Nat) (lo hi:Int) (hf:fT b p lo hi) (n:Int) (J:Nat) (hn:n.natAbs<8*J) (hJ:J≤38) (hL:L≤60) (hM:M≤60) :
  Calls Tryz.prog 53 #[va,.agg #[.int .i64 ((b:Nat):Int),.int .i64 ((p:Nat):Int),.int .i64 lo,.int .i64 hi],.int .i64 n] w fun e w'=>∃ u,e = .returned u∧Qn w' u (q*bp b n) (L+J) (M+J)∧Pl.Ex w w':=by
 by_cases h:0≤n
 · exact Q0 w va q L M ha b p lo hi hf n J hn hJ hL hM h
 · exact Q3 w va q L M ha b p lo hi hf n J hn hJ hL hM (by omega)
end Go.Proofs.YtgcieamfidoaoaaGreatDoor
namespace Go.Proofs.YtgcieamfidoaoaaGreatDoor
open Go.RowKit Rf Fm
set_option maxRecDepth 100000
theorem oV {b p:Nat} {lo hi m:Int} (hf:fT b p lo hi) (h0:0<m) (h:m<((b^p:Nat):Int)):(limbs (Int.natAbs m)).length≤p:=Sn.down (n:=b^p) (K:=p) (bK hf.r (by have:=hf.p1;omega)) (by omega)
theorem rA (w:World) (va:Value) (n9:Bool) (ha:Fv w va (.zero n9)) (b p:Nat) (lo hi:Int) (hf:fT b p lo hi) :
  Calls Tryz.prog 16 #[.agg #[.int .i64 ((b:Nat):Int),.int .i64 ((p:Nat):Int),.int .i64 lo,.int .i64 hi],va] w fun e w'=>e = .returned (.bool true)∧Pl.Ex w w':=by
 obtain ⟨Aa,ca,rfl,ua⟩:=ha
 refine Rf.aA (n:=88) [.a [vI ((b:Nat):Int),vI ((p:Nat):Int),vI lo,vI hi],.a [vI 0,vB n9,.c 0 0,vI 0]] [[.slice Aa (limbs 0).length ca]] [(0,(dW 0).S)] Tryz.func16 rfl (by kernel_rfl) rfl rfl ⟨RS.in ua,trivial⟩ ?_
 refine Rf.bu aa 1 0 rfl ?_
 refine Rf.aC 1 _ _ rfl (Pl.en Tryz.func14) (fun α γ w h=>aU 1 (dh _ b p lo hi hf)) ?_
 refine Rf.aV (.bool false) rfl (fun X=>aT _ X) ?_
 refine Rf.ay aa 2 rfl ?_
 refine Rf.ah (v:=.bool false) (fun X=>bM (by decide) X) rfl ?_
 refine Rf.ay aa 2 rfl ?_
 refine Rf.ah (v:=.bool false) (fun X=>bz (by decide) X) rfl ?_
 refine Rf.bY aa 2 2 rfl ?_
 refine Rf.ah (v:=.bool true) (fun X=>fU (by decide) X) rfl ?_
 refine Rf.bY aa 1 2 rfl ?_
 refine Rf.dD ((limbs 0).length) Tryz.underlying24 rfl rfl rfl rfl rfl rfl (fun w f h=>Un.jX h) ?_
 refine Rf.ah (v:=.bool true) (fun X=>aM (by rw [aX];rfl) X) rfl ?_
 refine Rf.ay aa 2 rfl ?_
 refine Rf.ah (v:=.bool true) (fun X=>aM (by decide) X) rfl ?_
 refine Rf.HY aa 0 2 rfl ?_
 exact Rf.aI aa (fun _ _ h=>h) rfl rfl (fun α γ w h=>⟨rfl,h.ex⟩)
theorem rC (w:World) (va:Value) (n9:Bool) (ha:Fv w va (.inf n9)) (b p:Nat) (lo hi:Int) (hf:fT b p lo hi) :
  Calls Tryz.prog 16 #[.agg #[.int .i64 ((b:Nat):Int),.int .i64 ((p:Nat):Int),.int .i64 lo,.int .i64 hi],va] w fun e w'=>e = .returned (.bool true)∧Pl.Ex w w':=by
 obtain ⟨Aa,ca,rfl,ua⟩:=ha
 refine Rf.aA (n:=88) [.a [vI ((b:Nat):Int),vI ((p:Nat):Int),vI lo,vI hi],.a [vI 2,vB n9,.c 0 0,vI 0]] [[.slice Aa (limbs 0).length ca]] [(0,(dW 0).S)] Tryz.func16 rfl (by kernel_rfl) rfl rfl ⟨RS.in ua,trivial⟩ ?_
 refine Rf.bu aa 1 0 rfl ?_
 refine Rf.aC 1 _ _ rfl (Pl.en Tryz.func14) (fun α γ w h=>aU 1 (dh _ b p lo hi hf)) ?_
 refine Rf.aV (.bool false) rfl (fun X=>aT _ X) ?_
 refine Rf.ay aa 2 rfl ?_
 refine Rf.ah (v:=.bool false) (fun X=>bM (by decide) X) rfl ?_
 refine Rf.ay aa 2 rfl ?_
 refine Rf.ah (v:=.bool false) (fun X=>bz (by decide) X) rfl ?_
 refine Rf.bY aa 2 2 rfl ?_
 refine Rf.ah (v:=.bool true) (fun X=>fU (by decide) X) rfl ?_
 refine Rf.bY aa 1 2 rfl ?_
 refine Rf.dD ((limbs 0).length) Tryz.underlying24 rfl rfl rfl rfl rfl rfl (fun w f h=>Un.jX h) ?_
 refine Rf.ah (v:=.bool true) (fun X=>aM (by rw [aX];rfl) X) rfl ?_
 refine Rf.ay aa 2 rfl ?_
 refine Rf.ah (v:=.bool true) (fun X=>aM (by decide) X) rfl ?_
 refine Rf.HY aa 0 2 rfl ?_
 exact Rf.aI aa (fun _ _ h=>h) rfl rfl (fun α γ w h=>⟨rfl,h.ex⟩)
theorem rD (w:World) (va:Value) (n9:Bool) (m e0:Int) (ha:Fv w va (.fin n9 m e0)) (b p:Nat) (lo hi:Int) (hf:fT b p lo hi) (hs0:Sn (Int.natAbs m) 38) (h1:lo≤e0) (h2:e0≤hi) (h3:0<m) (h4:m<((b^p:Nat):Int)) (h5:e0=lo) :
  Calls Tryz.prog 16 #[.agg #[.int .i64 ((b:Nat):Int),.int .i64 ((p:Nat):Int),.int .i64 lo,.int .i64 hi],va] w fun e w'=>e = .returned (.bool true)∧Pl.Ex w w':=by
 have f1:=hf.p1
 have f2:=hf.ku
 have f3:=hf.l
 have f4:=hf.l1
 have f5:=hf.h1
 obtain ⟨Aa,ca,rfl,ua⟩:=ha
 have hs:Sn (Int.natAbs m) 38:=hs0
 have hlp:=oV hf h3 h4
 refine Rf.aA (n:=88) [.a [vI ((b:Nat):Int),vI ((p:Nat):Int),vI lo,vI hi],.a [vI 1,vB n9,.c 0 0,vI e0]] [[.slice Aa (limbs (Int.natAbs m)).length ca]] [(0,(dW (Int.natAbs m)).S)] Tryz.func16 rfl (by kernel_rfl) rfl rfl ⟨RS.in ua,trivial⟩ ?_
 refine Rf.bu aa 1 0 rfl ?_
 refine Rf.aC 1 _ _ rfl (Pl.en Tryz.func14) (fun α γ w h=>aU 1 (dh _ b p lo hi hf)) ?_
 refine Rf.aV (.bool false) rfl (fun X=>aT _ X) ?_
 refine Rf.ay aa 2 rfl ?_
 refine Rf.ah (v:=.bool false) (fun X=>bM (by decide) X) rfl ?_
 refine Rf.ay aa 2 rfl ?_
 refine Rf.ah (v:=.bool false) (fun X=>bz (by decide) X) rfl ?_
 refine Rf.bY aa 2 2 rfl ?_
 refine Rf.ah (v:=.bool false) (fun X=>bE (by decide) X) rfl ?_
 refine Rf.bY aa 2 2 rfl ?_
 refine Rf.dD ((limbs (Int.natAbs m)).length) Tryz.underlying24 rfl rfl rfl rfl rfl rfl (fun w f h=>Un.jX h) ?_
 refine Rf.ah (v:=.bool false) (fun X=>aK (fun h=>by rw [Int.ofNat_eq_zero,jQ] at h;omega) X) rfl ?_
 refine Rf.ay aa 2 rfl ?_
 refine Rf.aC 2 _ _ rfl (Pl.en Tryz.func46) (fun α γ w h=>aU 2 (kD _ _ (limbs (Int.natAbs m)) (h.r 0 rfl) true (fM (Sn.le hs (by decide))))) ?_
 refine Rf.aV (.bool false) rfl (fun X=>aT _ X) ?_
 refine Rf.ay aa 2 rfl ?_
 refine Rf.ah (v:=.bool false) (fun X=>bM (by omega) X) rfl ?_
 refine Rf.ay aa 2 rfl ?_
 refine Rf.ah (v:=.bool false) (fun X=>bz (by omega) X) rfl ?_
 refine Rf.ay aa 2 rfl ?_
 refine Rf.dD ((limbs (Int.natAbs m)).length) Tryz.underlying24 rfl rfl rfl rfl rfl rfl (fun w f h=>Un.jX h) ?_
 refine Rf.ay aa 2 rfl ?_
 refine Rf.ah (v:=.bool false) (fun X=>bz (by omega) X) rfl ?_
 refine Rf.HY aa 2 2 rfl ?_
 refine Rf.aQ none fo ?_
 refine Rf.aD aa 27 2 rfl ?_
 refine Rf.ak 3 _ _ rfl (Pl.en Tryz.func36) (fun α γ w h=>dO 3 (bg _ b p p lo hi ((p:Nat):Int) hf.r (by omega) (by omega))) ?_
 refine Rf.ak 4 _ _ rfl (Pl.en Tryz.func47) (fun α γ w h=>aU 4 (jk _ _ _ (Int.natAbs m) (b^p) (h.r 0 rfl) (h.r 3 rfl) (Nat.le_trans hs (by decide)) (Nat.le_trans (bK hf.r (by omega):Sn (b^p) 38) (by decide)) _ rfl)) ?_
 refine Rf.dL (vT) rfl (fun α γ w h=>(fun X=>bL (je.2 (by omega)) X) w) ?_
 refine Rf.aD aa 27 2 rfl ?_
 refine Rf.dL (vT) rfl (fun α γ w h=>(fun X=>aM h5 X) w) ?_
 refine Rf.aD aa 27 2 rfl ?_
 refine Rf.aW (by kernel_rfl) ?_
 refine Rf.aP [4] [] [] rfl ?_
 repeat refine Rf.aO ?_
 exact Rf.aI aa (fun _ _ h=>h) rfl rfl (fun α γ w h=>⟨rfl,h.ex⟩)
theorem rE (w:World) (va:Value) (n9:Bool) (m e0:Int) (ha:Fv w va (.fin n9 m e0)) (b p:Nat) (lo hi:Int) (hf:fT b p lo hi) (hs0:Sn (Int.natAbs m) 38) (h1:lo≤e0) (h2:e0≤hi) (h3:0<m) (h4:m<((b^p:Nat):Int)) (h5:¬ e0=lo) (h6:((b^(p-1):Nat):Int)≤m) :
  Calls Tryz.prog 16 #[.agg #[.int .i64 ((b:Nat):Int),.int .i64 ((p:Nat):Int),.int .i64 lo,.int .i64 hi],va] w fun e w'=>e = .returned (.bool true)∧Pl.Ex w w':=by
 have f1:=hf.p1
 have f2:=hf.ku
 have f3:=hf.l
 have f4:=hf.l1
 have f5:=hf.h1
 obtain ⟨Aa,ca,rfl,ua⟩:=ha
 have hs:Sn (Int.natAbs m) 38:=hs0
 have hlp:=oV hf h3 h4
 refine Rf.aA (n:=88) [.a [vI ((b:Nat):Int),vI ((p:Nat):Int),vI lo,vI hi],.a [vI 1,vB n9,.c 0 0,vI e0]] [[.slice Aa (limbs (Int.natAbs m)).length ca]] [(0,(dW (Int.natAbs m)).S)] Tryz.func16 rfl (by kernel_rfl) rfl rfl ⟨RS.in ua,trivial⟩ ?_
 refine Rf.bu aa 1 0 rfl ?_
 refine Rf.aC 1 _ _ rfl (Pl.en Tryz.func14) (fun α γ w h=>aU 1 (dh _ b p lo hi hf)) ?_
 refine Rf.aV (.bool false) rfl (fun X=>aT _ X) ?_
 refine Rf.ay aa 2 rfl ?_
 refine Rf.ah (v:=.bool false) (fun X=>bM (by decide) X) rfl ?_
 refine Rf.ay aa 2 rfl ?_
 refine Rf.ah (v:=.bool false) (fun X=>bz (by decide) X) rfl ?_
 refine Rf.bY aa 2 2 rfl ?_
 refine Rf.ah (v:=.bool false) (fun X=>bE (by decide) X) rfl ?_
 refine Rf.bY aa 2 2 rfl ?_
 refine Rf.dD ((limbs (Int.natAbs m)).length) Tryz.underlying24 rfl rfl rfl rfl rfl rfl (fun w f h=>Un.jX h) ?_
 refine Rf.ah (v:=.bool false) (fun X=>aK (fun h=>by rw [Int.ofNat_eq_zero,jQ] at h;omega) X) rfl ?_
 refine Rf.ay aa 2 rfl ?_
 refine Rf.aC 2 _ _ rfl (Pl.en Tryz.func46) (fun α γ w h=>aU 2 (kD _ _ (limbs (Int.natAbs m)) (h.r 0 rfl) true (fM (Sn.le hs (by decide))))) ?_
 refine Rf.aV (.bool false) rfl (fun X=>aT _ X) ?_
 refine Rf.ay aa 2 rfl ?_
 refine Rf.ah (v:=.bool false) (fun X=>bM (by omega) X) rfl ?_
 refine Rf.ay aa 2 rfl ?_
 refine Rf.ah (v:=.bool false) (fun X=>bz (by omega) X) rfl ?_
 refine Rf.ay aa 2 rfl ?_
 refine Rf.dD ((limbs (Int.natAbs m)).length) Tryz.underlying24 rfl rfl rfl rfl rfl rfl (fun w f h=>Un.jX h) ?_
 refine Rf.ay aa 2 rfl ?_
 refine Rf.ah (v:=.bool false) (fun X=>bz (by omega) X) rfl ?_
 refine Rf.HY aa 2 2 rfl ?_
 refine Rf.aQ none fo ?_
 refine Rf.aD aa 27 2 rfl ?_
 refine Rf.ak 3 _ _ rfl (Pl.en Tryz.func36) (fun α γ w h=>dO 3 (bg _ b p p lo hi ((p:Nat):Int) hf.r (by omega) (by omega))) ?_
 refine Rf.ak 4 _ _ rfl (Pl.en Tryz.func47) (fun α γ w h=>aU 4 (jk _ _ _ (Int.natAbs m) (b^p) (h.r 0 rfl) (h.r 3 rfl) (Nat.le_trans hs (by decide)) (Nat.le_trans (bK hf.r (by omega):Sn (b^p) 38) (by decide)) _ rfl)) ?_
 refine Rf.dL (vT) rfl (fun α γ w h=>(fun X=>bL (je.2 (by omega)) X) w) ?_
 refine Rf.aD aa 27 2 rfl ?_
 refine Rf.dL (vF) rfl (fun α γ w h=>(fun X=>aK h5 X) w) ?_
 refine Rf.aD aa 27 2 rfl ?_
 refine Rf.Be (vI (((p:Nat):Int)-1)) rfl rfl rfl rfl rfl rfl rfl rfl rfl rfl (fun α γ w h=>(fun X=>eH (by omega) X) w) ?_
 refine Rf.ak 5 _ _ rfl (Pl.en Tryz.func36) (fun α γ w h=>dO 5 (bg _ b p (p-1) lo hi (((p:Nat):Int)-1) hf.r (by omega) (by omega))) ?_
 refine Rf.ak 6 _ _ rfl (Pl.en Tryz.func47) (fun α γ w h=>aU 6 (jk _ _ _ (Int.natAbs m) (b^(p-1)) (h.r 0 rfl) (h.r 5 rfl) (Nat.le_trans hs (by decide)) (Nat.le_trans (bK hf.r (by omega):Sn (b^(p-1)) 38) (by decide)) _ rfl)) ?_
 refine Rf.dL (vT) rfl (fun α γ w h=>(fun X=>bS (gW.2 (by omega)) X) w) ?_
 refine Rf.aD aa 27 2 rfl ?_
 refine Rf.aW (by kernel_rfl) ?_
 refine Rf.aP [4] [] [] rfl ?_
 repeat refine Rf.aO ?_
 exact Rf.aI aa (fun _ _ h=>h) rfl rfl (fun α γ w h=>⟨rfl,h.ex⟩)
theorem bQ (w:World) (va:Value) (x:Fl) (ha:Fv w va x) (b p:Nat) (lo hi:Int) (hf:fT b p lo hi) (hx:bO b p lo hi x) :
  Calls Tryz.prog 16 #[.agg #[.int .i64 ((b:Nat):Int),.int .i64 ((p:Nat):Int),.int .i64 lo,.int .i64 hi],va] w fun e w'=>e = .returned (.bool true)∧Pl.Ex w w':=by
 cases x with
 | zero n=>exact rA w va n ha b p lo hi hf
 | inf n=>exact rC w va n ha b p lo hi hf
 | fin n m e0 =>
  have hs:=Sn.le (qb hf hx) (show 3≤38 by decide)
  obtain ⟨⟨x1,x2,x3,x4⟩,x5⟩:=hx
  by_cases h:e0=lo
  · exact rD w va n m e0 ha b p lo hi hf hs x1 x5 x2 x3 h
  · exact rE w va n m e0 ha b p lo hi hf hs x1 x5 x2 x3 h (x4.resolve_left h)
theorem Q4 {b:Nat} (n:Bool):vf b (.zero n)=((sg n 0:Int):Rat)*bp b 0:=by rw [show sg n 0=0 by cases n<;>rfl];show (0:Rat)=_;rw [Rat.intCast_zero,Rat.zero_mul]
theorem UU {b:Nat} {n:Bool} {m e:Int} (hm:0≤m):vf b (.fin n m e)=((sg n m.natAbs:Int):Rat)*bp b e:=by
 have h:((m.natAbs:Nat):Int)=m:=by omega
 show sv n ((m:Rat)*bp b e)=_
 cases n with
 | false=>show (m:Rat)*_=((((m.natAbs:Nat):Int)):Rat)*_;rw [h]
 | true=>show -((m:Rat)*_)=((-((m.natAbs:Nat):Int):Int):Rat)*_;rw [h,Rat.intCast_neg,Rat.neg_mul]
theorem Om (w:World) (va:Value) (n9:Bool) (m e0:Int) (ha:Fv w va (.fin n9 m e0)) (b p:Nat) (lo hi:Int) (hf:fT b p lo hi) (hx:bO b p lo hi (.fin n9 m e0)) (J:Nat) (hJ1 : -lo<8*(J:Int)) (hJ2:hi<8*(J:Int)) (hJ:J≤38) :
  Calls Tryz.prog 19 #[.agg #[.int .i64 ((b:Nat):Int),.int .i64 ((p:Nat):Int),.int .i64 lo,.int .i64 hi],va] w fun e w'=>∃ u,e = .returned (.tuple #[u,.bool true])∧Qn w' u (vf b (.fin n9 m e0)) (3+J) (1+J)∧Pl.Ex w w':=by
 have f1:=hf.p1
 have f2:=hf.ku
 have f3:=hf.l
 have f4:=hf.l1
 have f5:=hf.h1
 have hm0:=hx.1.2.1
 have x1:=hx.1.1
 have x2:=hx.2
 have hs3:=qb hf hx
 obtain ⟨Aa,ca,rfl,ua⟩:=ha
 refine Rf.aA (n:=26) [.a [vI ((b:Nat):Int),vI ((p:Nat):Int),vI lo,vI hi],.a [vI 1,vB n9,.c 0 0,vI e0]] [[.slice Aa (limbs (Int.natAbs m)).length ca]] [(0,(dW (Int.natAbs m)).S)] Tryz.func19 rfl (by kernel_rfl) rfl rfl ⟨RS.in ua,trivial⟩ ?_
 refine Rf.bu aa 1 0 rfl ?_
 refine Rf.aC 1 _ _ rfl (Pl.en Tryz.func16) (fun α γ w h=>aU 1 (bQ _ _ (.fin n9 m e0) (Fv.mk (x:=(.fin n9 m e0)) (h.r 0 rfl)) b p lo hi hf hx)) ?_
 refine Rf.aV (.bool false) rfl (fun X=>aT _ X) ?_
 refine Rf.ay aa 3 rfl ?_
 refine Rf.ah (v:=.bool false) (fun X=>aK (by decide) X) rfl ?_
 refine Rf.HY aa 2 3 rfl ?_
 refine Rf.aQ none fo ?_
 refine Rf.aD aa 12 3 rfl ?_
 refine Rf.ak 2 _ _ rfl (Pl.en Tryz.func55) (fun α γ w h=>gz 2 (kG _ n9 _ (limbs (Int.natAbs m)) (h.r 0 rfl) (Nat.le_trans hs3 (by decide)) _ (aJ _) (sg n9 (Int.natAbs m)) rfl)) ?_
 refine Rf.ak 3 _ _ rfl (Pl.en Tryz.func54) (fun α γ w h=>iP 3 (oq _ _ (sg n9 (Int.natAbs m)) 3 (h.r 2 rfl) (nM hs3))) ?_
 refine Rf.aD aa 12 3 rfl ?_
 refine Rf.ak 4 _ _ rfl (Pl.en Tryz.func53) (fun α γ w h=>iP 4 (xV _ _ (((sg n9 (Int.natAbs m)):Int):Rat) 3 1 (h.r 3 rfl) b p lo hi hf e0 J (by omega) (by omega) (by omega) (by omega))) ?_
 refine Rf.aD aa 12 3 rfl ?_
 refine Rf.aW (by kernel_rfl) ?_
 refine Rf.aP [4,5] [2] [4] rfl ?_
 repeat refine Rf.aO ?_
 exact Rf.aI aa (fun _ _ h=>h) rfl rfl (fun α γ w h=>⟨_,rfl,by rw [UU (Int.le_of_lt hm0)];exact Qn.le (h.r 4 rfl) (by omega) (by omega),h.ex⟩)
theorem Oo (w:World) (va:Value) (n9:Bool) (ha:Fv w va (.zero n9)) (b p:Nat) (lo hi:Int) (hf:fT b p lo hi) (J:Nat) (hJ1 : -lo<8*(J:Int)) (hJ2:hi<8*(J:Int)) (hJ:J≤38) (hJ0:1≤J) :
  Calls Tryz.prog 19 #[.agg #[.int .i64 ((b:Nat):Int),.int .i64 ((p:Nat):Int),.int .i64 lo,.int .i64 hi],va] w fun e w'=>∃ u,e = .returned (.tuple #[u,.bool true])∧Qn w' u (vf b (.zero n9)) (3+J) (1+J)∧Pl.Ex w w':=by
 have f1:=hf.p1
 have f2:=hf.ku
 have f3:=hf.l
 have f4:=hf.l1
 have f5:=hf.h1
 have hx:bO b p lo hi (.zero n9):=trivial
 obtain ⟨Aa,ca,rfl,ua⟩:=ha
 refine Rf.aA (n:=26) [.a [vI ((b:Nat):Int),vI ((p:Nat):Int),vI lo,vI hi],.a [vI 0,vB n9,.c 0 0,vI 0]] [[.slice Aa (limbs 0).length ca]] [(0,(dW 0).S)] Tryz.func19 rfl (by kernel_rfl) rfl rfl ⟨RS.in ua,trivial⟩ ?_
 refine Rf.bu aa 1 0 rfl ?_
 refine Rf.aC 1 _ _ rfl (Pl.en Tryz.func16) (fun α γ w h=>aU 1 (bQ _ _ (.zero n9) (Fv.mk (x:=(.zero n9)) (h.r 0 rfl)) b p lo hi hf hx)) ?_
 refine Rf.aV (.bool false) rfl (fun X=>aT _ X) ?_
 refine Rf.ay aa 3 rfl ?_
 refine Rf.ah (v:=.bool false) (fun X=>aK (by decide) X) rfl ?_
 refine Rf.HY aa 2 3 rfl ?_
 refine Rf.aQ none fo ?_
 refine Rf.aD aa 12 3 rfl ?_
 refine Rf.ak 2 _ _ rfl (Pl.en Tryz.func55) (fun α γ w h=>gz 2 (kG _ n9 _ (limbs 0) (h.r 0 rfl) (Nat.le_trans (Sn.zero:Sn 0 3) (by decide)) _ (aJ _) (sg n9 0) rfl)) ?_
 refine Rf.ak 3 _ _ rfl (Pl.en Tryz.func54) (fun α γ w h=>iP 3 (oq _ _ (sg n9 0) 3 (h.r 2 rfl) (nM (Sn.zero:Sn 0 3)))) ?_
 refine Rf.aD aa 12 3 rfl ?_
 refine Rf.ak 4 _ _ rfl (Pl.en Tryz.func53) (fun α γ w h=>iP 4 (xV _ _ (((sg n9 0):Int):Rat) 3 1 (h.r 3 rfl) b p lo hi hf 0 J (by omega) (by omega) (by omega) (by omega))) ?_
 refine Rf.aD aa 12 3 rfl ?_
 refine Rf.aW (by kernel_rfl) ?_
 refine Rf.aP [4,5] [2] [4] rfl ?_
 repeat refine Rf.aO ?_
 exact Rf.aI aa (fun _ _ h=>h) rfl rfl (fun α γ w h=>⟨_,rfl,by rw [Q4];exact Qn.le (h.r 4 rfl) (by omega) (by omega),h.ex⟩)
theorem vP (w:World) (va:Value) (x:Fl) (ha:Fv w va x) (b p:Nat) (lo hi:Int) (hf:fT b p lo hi) (hx:bO b p lo hi x) (hi0:∀ n,x≠.inf n) (J:Nat) (hJ1 : -lo<8*(J:Int)) (hJ2:hi<8*(J:Int)) (hJ:J≤38) (hJ0:1≤J) :
  Calls Tryz.prog 19 #[.agg #[.int .i64 ((b:Nat):Int),.int .i64 ((p:Nat):Int),.int .i64 lo,.int .i64 hi],va] w fun e w'=>∃ u,e = .returned (.tuple #[u,.bool true])∧Qn w' u (vf b x) (3+J) (1+J)∧Pl.Ex w w':=by
 cases x with
 | zero n=>exact Oo w va n ha b p lo hi hf J hJ1 hJ2 hJ hJ0
 | inf n=>exact absurd rfl (hi0 n)
 | fin n m e0=>exact Om w va n m e0 ha b p lo hi hf hx J hJ1 hJ2 hJ
end Go.Proofs.YtgcieamfidoaoaaGreatDoor
namespace Go.Proofs.YtgcieamfidoaoaaGreatDoor
open Go.RowKit Rf Fm
set_option maxRecDepth 100000
def eU (xs:List Nat):RS:=⟨fun w f=>U w (f 0) xs,fun h hs hk=>jd h hs hk⟩
def and1 (z:Int):Nat:=(BitVec.ofInt 64 z&&&BitVec.ofInt 64 1).toNat
theorem j5 (z:Int):and1 z≤1:=by unfold and1;rw [BitVec.toNat_and];exact Nat.and_le_right
theorem om (z:Int) (T:TypeId) (x y:Operand) (X:World):Pl.Bn Tryz.prog .and T x y (.int .i64 z) (.int .i64 1) X = .ok (.int .i64 ((and1 z:Nat):Int)) X:=by
 have h:=j5 z
 have e:IntKind.i64.wrap ((and1 z:Nat):Int)=((and1 z:Nat):Int):=Pl.oC (by omega) (by omega)
 show (do eqGuard .and T x y (.int .i64 z) (.int .i64 1);binOp .and T (.int .i64 z) (.int .i64 1):Sem Value).run Tryz.prog X=_
 have h2:(Op.intBits .and .i64 z 1).run Tryz.prog X = .ok (.int .i64 (IntKind.i64.wrap ((and1 z:Nat):Int))) X:=rfl
 rw [e] at h2
 exact h2
def iM (z:Int):Nat:=(BitVec.ofInt 64 z&&&BitVec.ofInt 64 8).toNat
theorem j6 (z:Int):iM z≤8:=by unfold iM;rw [BitVec.toNat_and];exact Nat.and_le_right
theorem oo (z:Int) (T:TypeId) (x y:Operand) (X:World):Pl.Bn Tryz.prog .and T x y (.int .i64 z) (.int .i64 8) X = .ok (.int .i64 ((iM z:Nat):Int)) X:=by
 have h:=j6 z
 have e:IntKind.i64.wrap ((iM z:Nat):Int)=((iM z:Nat):Int):=Pl.oC (by omega) (by omega)
 show (do eqGuard .and T x y (.int .i64 z) (.int .i64 8);binOp .and T (.int .i64 z) (.int .i64 8):Sem Value).run Tryz.prog X=_
 have h2:(Op.intBits .and .i64 z 8).run Tryz.prog X = .ok (.int .i64 (IntKind.i64.wrap ((iM z:Nat):Int))) X:=rfl
 rw [e] at h2
 exact h2
def aN (z:Int):Nat:=(BitVec.ofInt 64 z&&&BitVec.ofInt 64 65535).toNat
theorem bW (z:Int):aN z≤65535:=by unfold aN;rw [BitVec.toNat_and];exact Nat.and_le_right
theorem dJ (z:Int) (T:TypeId) (x y:Operand) (X:World):Pl.Bn Tryz.prog .and T x y (.int .i64 z) (.int .i64 65535) X = .ok (.int .i64 ((aN z:Nat):Int)) X:=by
 have h:=bW z
 have e:IntKind.i64.wrap ((aN z:Nat):Int)=((aN z:Nat):Int):=Pl.oC (by omega) (by omega)
 show (do eqGuard .and T x y (.int .i64 z) (.int .i64 65535);binOp .and T (.int .i64 z) (.int .i64 65535):Sem Value).run Tryz.prog X=_
 have h2:(Op.intBits .and .i64 z 65535).run Tryz.prog X = .ok (.int .i64 (IntKind.i64.wrap ((aN z:Nat):Int))) X:=rfl
 rw [e] at h2
 exact h2
theorem bD {P:Program} {T:TypeId} {x y:Operand} {a b:Nat} (h:a+b≤9223372036854775807) (X:World):Pl.Bn P .add T x y (.int .i64 ((a:Nat):Int)) (.int .i64 ((b:Nat):Int)) X = .ok (.int .i64 ((a+b:Nat):Int)) X:=Pl.Ep (Pl.a64 rfl rfl h) X
theorem bF {P:Program} {T:TypeId} {x y:Operand} {a b:Nat} (h0:b≠0) (_:a≤a) (X:World):Pl.Bn P .rem T x y (.int .i64 ((a:Nat):Int)) (.int .i64 ((b:Nat):Int)) X = .ok (.int .i64 ((a%b:Nat):Int)) X:=Pl.rY (by omega) (Int.ofNat_tmod a b).symm X
def dw (r:Int):Nat:=if and1 r=0∧iM r=8 then 10 else 2
def fu (p:Int):Nat:=1+aN p%10
def dY (l:Int):Int:=((aN l%31:Nat):Int)-20
def fD (l h:Int):Int:=dY l+((aN h%21:Nat):Int)
theorem jM (r p l h:Int):fT (dw r) (fu p) (dY l) (fD l h)∧fu p≤10 ∧ -20≤dY l∧fD l h≤30:=by
 unfold dw fu fD dY
 refine ⟨⟨by split<;>omega,by omega,by omega,by omega,by omega,by omega⟩,by omega,by omega,by omega⟩
theorem iq (w:World) (r9 p9 l9 h9:Int) :
  Calls Tryz.prog 29 #[.agg #[.int .i64 r9,.int .i64 p9,.int .i64 l9,.int .i64 h9]] w fun e w'=>e = .returned (.agg #[.int .i64 ((dw r9:Nat):Int),.int .i64 ((fu p9:Nat):Int),.int .i64 (dY l9),.int .i64 (fD l9 h9)])∧Pl.Ex w w':=by
 have qp9:=bW p9
 have ql9:=bW l9
 have qh9:=bW h9
 have g1:=j5 r9
 have g8:=j6 r9
 refine Rf.aA (n:=35) [.a [vI r9,vI p9,vI l9,vI h9]] [] [] Tryz.func29 rfl (by kernel_rfl) rfl rfl trivial ?_
 refine Rf.bu aa 1 0 rfl ?_
 refine Rf.ah (v:=.int .i64 ((aN p9:Nat):Int)) (fun X=>dJ p9 _ _ _ X) rfl ?_
 refine Rf.ah (v:=.int .i64 ((((aN p9)%10):Nat):Int)) (bF (a:=(aN p9)) (b:=10) (by omega) (by omega)) rfl ?_
 refine Rf.ah (v:=.int .i64 (((1+((aN p9)%10)):Nat):Int)) (bD (a:=1) (b:=((aN p9)%10)) (by omega)) rfl ?_
 refine Rf.ay aa 2 rfl ?_
 refine Rf.ah (v:=.int .i64 ((aN l9:Nat):Int)) (fun X=>dJ l9 _ _ _ X) rfl ?_
 refine Rf.ah (v:=.int .i64 ((((aN l9)%31):Nat):Int)) (bF (a:=(aN l9)) (b:=31) (by omega) (by omega)) rfl ?_
 refine Rf.ah (v:=.int .i64 (((((aN l9)%31):Nat):Int)-20)) (fun X=>eH (by omega) X) rfl ?_
 refine Rf.gU (.a [vI 2,vI (((1+((aN p9)%10)):Nat):Int),vI (((((aN l9)%31):Nat):Int)-20),vI 0]) rfl rfl rfl (fun _ _=>rfl) (fun α γ X=>by kernel_rfl) ?_
 refine Rf.bY aa 0 2 rfl ?_
 refine Rf.ah (v:=.int .i64 ((and1 r9:Nat):Int)) (fun X=>om r9 _ _ _ X) rfl ?_
 refine Rf.jZ (p:=(((and1 r9):Nat):Int)=0) (l8 _ _) rfl (fun c1=>?_) (fun c1=>?_)
 · refine Rf.ay aa 3 rfl ?_
   refine Rf.ah (v:=.int .i64 ((iM r9:Nat):Int)) (fun X=>oo r9 _ _ _ X) rfl ?_
   refine Rf.jZ (p:=(((iM r9):Nat):Int)=8) (l8 _ _) rfl (fun c2=>?_) (fun c2=>?_)
   · refine Rf.bY aa 2 3 rfl ?_
     refine Rf.ah (v:=.int .i64 ((aN h9:Nat):Int)) (fun X=>dJ h9 _ _ _ X) rfl ?_
     refine Rf.ah (v:=.int .i64 ((((aN h9)%21):Nat):Int)) (bF (a:=(aN h9)) (b:=21) (by omega) (by omega)) rfl ?_
     refine Rf.ah (v:=.int .i64 ((((((aN l9)%31):Nat):Int)-20)+((((aN h9)%21):Nat):Int))) (fun X=>gB (by omega) X) rfl ?_
     refine Rf.HY aa 1 3 rfl ?_
     exact Rf.aI aa (fun _ _ h=>h) rfl rfl (fun α γ w h=>⟨by rw [show dw r9=10 by unfold dw;split<;>omega];rfl,h.ex⟩)
   · refine Rf.bY aa 2 3 rfl ?_
     refine Rf.ah (v:=.int .i64 ((aN h9:Nat):Int)) (fun X=>dJ h9 _ _ _ X) rfl ?_
     refine Rf.ah (v:=.int .i64 ((((aN h9)%21):Nat):Int)) (bF (a:=(aN h9)) (b:=21) (by omega) (by omega)) rfl ?_
     refine Rf.ah (v:=.int .i64 ((((((aN l9)%31):Nat):Int)-20)+((((aN h9)%21):Nat):Int))) (fun X=>gB (by omega) X) rfl ?_
     refine Rf.HY aa 1 3 rfl ?_
     exact Rf.aI aa (fun _ _ h=>h) rfl rfl (fun α γ w h=>⟨by rw [show dw r9=2 by unfold dw;split<;>omega];rfl,h.ex⟩)
 · refine Rf.bY aa 2 3 rfl ?_
   refine Rf.ah (v:=.int .i64 ((aN h9:Nat):Int)) (fun X=>dJ h9 _ _ _ X) rfl ?_
   refine Rf.ah (v:=.int .i64 ((((aN h9)%21):Nat):Int)) (bF (a:=(aN h9)) (b:=21) (by omega) (by omega)) rfl ?_
   refine Rf.ah (v:=.int .i64 ((((((aN l9)%31):Nat):Int)-20)+((((aN h9)%21):Nat):Int))) (fun X=>gB (by omega) X) rfl ?_
   refine Rf.HY aa 1 3 rfl ?_
   exact Rf.aI aa (fun _ _ h=>h) rfl rfl (fun α γ w h=>⟨by rw [show dw r9=2 by unfold dw;split<;>omega];rfl,h.ex⟩)
end Go.Proofs.YtgcieamfidoaoaaGreatDoor
namespace Go.Proofs.YtgcieamfidoaoaaGreatDoor
open Go.RowKit Rf Fm
set_option maxRecDepth 100000
theorem Qn.re {w:World} {v:Value} {q:Rat} {L M K N:Nat} (h:Qn w v q L M) (h1:Sz q.num K) (h2:Sn q.den N):Qn w v q K N:=by
 obtain ⟨A,c,B,b,e,u,t,z,y⟩:=h
 exact ⟨A,c,B,b,e,u,t,h1,h2⟩
theorem Cn {n:Int} {d K N:Nat} (hd:d≠0) (h1:Sz n K) (h2:Sn d N):Sz (Rat.divInt n ((d:Nat):Int)).num K∧Sn (Rat.divInt n ((d:Nat):Int)).den N:=by
 have hmk:=mk_pos (n:=n) (d:=(d:Int)) (g:=Nat.gcd n.natAbs d) (by omega) (by rw [Int.natAbs_natCast]) (by omega)
 rw [hmk.1,hmk.2,Int.natAbs_natCast]
 exact ⟨Sz.div h1,Sn.Ic (Sz.div (Sn.sz h2))⟩
def fB (b:Bool) (xs ys:List Nat):Rat:=Rat.divInt (sg b (aS xs 4)) (if aS ys 4=0 then 1 else ((aS ys 4:Nat):Int))
theorem gN (w:World) (va:Value) (n9:Bool) (xs:List Nat) (ua:U w va xs) :
  Calls Tryz.prog 67 #[.agg #[.bool n9,va],.int .i64 4] w fun e w'=>∃ u,e = .returned u∧Zn w' u (sg n9 (aS xs 4))∧Pl.Ex w w':=by
 obtain ⟨Aa,ca,rfl,-⟩:=U.shape ua
 have iR:Sn (aS xs 4) 4:=Sz.sn (Sz.cut ua false 4 4 (Nat.le_refl 4))
 have hcut:=iR
 refine Rf.aA (n:=12) [.a [vB n9,.c 0 0],vI 4] [[.slice Aa (List.length xs) ca]] [(0,(eU xs).S)] Tryz.func67 rfl (by kernel_rfl) rfl rfl ⟨RS.in ua,trivial⟩ ?_
 refine Rf.HX aa 1 0 rfl ?_
 refine Rf.aQ none fo ?_
 refine Rf.aD aa 8 2 rfl ?_
 refine Rf.ak 1 _ _ rfl (Pl.en Tryz.func65) (fun α γ w h=>dO 1 (iJ _ _ xs 4 (h.r 0 rfl) (by decide) (by decide) (aS xs 4) rfl)) ?_
 refine Rf.ak 2 _ _ rfl (Pl.en Tryz.func55) (fun α γ w h=>gz 2 (kG _ n9 _ (limbs (aS xs 4)) (h.r 1 rfl) (Nat.le_trans hcut (by decide)) _ (aJ _) (sg n9 (aS xs 4)) rfl)) ?_
 refine Rf.aD aa 8 2 rfl ?_
 refine Rf.aW (by kernel_rfl) ?_
 refine Rf.aP [4] [1] [2] rfl ?_
 repeat refine Rf.aO ?_
 exact Rf.aI aa (fun _ _ h=>h) rfl rfl (fun α γ w h=>⟨_,rfl,(h.r 2 rfl),h.ex⟩)
theorem pq (w:World) (va vb:Value) (n9:Bool) (xs ys:List Nat) (ua:U w va xs) (ub:U w vb ys) (h0:aS ys 4=0) :
  Calls Tryz.prog 28 #[.agg #[.bool n9,va,vb],.int .i64 4] w fun e w'=>∃ u,e = .returned u∧Qn w' u (fB n9 xs ys) 4 4∧Pl.Ex w w':=by
 obtain ⟨Aa,ca,rfl,-⟩:=U.shape ua
 have iR:Sn (aS xs 4) 4:=Sz.sn (Sz.cut ua false 4 4 (Nat.le_refl 4))
 obtain ⟨Ab,cb,rfl,-⟩:=U.shape ub
 have kY:Sn (aS ys 4) 4:=Sz.sn (Sz.cut ub false 4 4 (Nat.le_refl 4))
 have hcut:=kY
 refine Rf.aA (n:=21) [.a [vB n9,.c 0 0,.c 1 0],vI 4] [[.slice Aa (List.length xs) ca],[.slice Ab (List.length ys) cb]] [(0,(eU xs).S),(1,(eU ys).S)] Tryz.func28 rfl (by kernel_rfl) rfl rfl ⟨RS.in ua,RS.in ub,trivial⟩ ?_
 refine Rf.bu aa 1 0 rfl ?_
 refine Rf.aC 2 _ _ rfl (Pl.en Tryz.func65) (fun α γ w h=>dO 2 (iJ _ _ ys 4 (h.r 1 rfl) (by decide) (by decide) (aS ys 4) rfl)) ?_
 refine Rf.bY aa 0 2 rfl ?_
 refine Rf.dD ((limbs (aS ys 4)).length) Tryz.underlying24 rfl rfl rfl rfl rfl rfl (fun w f h=>Un.jX h) ?_
 refine Rf.ah (v:=.bool true) (fun X=>aM (by rw [Int.ofNat_eq_zero,jQ];exact h0) X) rfl ?_
 refine Rf.bY aa 1 0 rfl ?_
 refine Rf.mH (e := 57) (m:=1) [.int .u32 1] 3 (dW 1) rfl rfl rfl (fun _ _=>rfl) (fun α γ X=>by kernel_rfl) rfl (fun N w k=>Un.one (x:=1) k rfl (by omega)) ?_
 refine Rf.bY aa 0 2 rfl ?_
 refine Rf.aC 4 _ _ rfl (Pl.en Tryz.func67) (fun α γ w h=>gz 4 (gN _ _ n9 xs (h.r 0 rfl))) ?_
 refine Rf.ay aa 2 rfl ?_
 refine Rf.aC 5 _ _ rfl (Pl.en Tryz.func68) (fun α γ w h=>gz 5 (fA _ _ 1 (h.r 3 rfl))) ?_
 refine Rf.aC 6 _ _ rfl (Pl.en Tryz.func66) (fun α γ w h=>iP 6 (iK _ _ _ (sg n9 (aS xs 4)) ((1:Nat):Int) _ (h.r 4 rfl) (h.r 5 rfl) 4 1 (nM iR) (Sn.sz (Sn.of (K:=1) (by decide))) (by decide) (by decide) (by omega) rfl)) ?_
 refine Rf.HY aa 0 2 rfl ?_
 exact Rf.aI aa (fun _ _ h=>h) rfl rfl (fun α γ w h=>⟨_,rfl,by unfold fB;rw [if_pos h0];exact Qn.le (h.r 6 rfl) (by decide) (by decide),h.ex⟩)
theorem pz (w:World) (va vb:Value) (n9:Bool) (xs ys:List Nat) (ua:U w va xs) (ub:U w vb ys) (h0:¬ aS ys 4=0) :
  Calls Tryz.prog 28 #[.agg #[.bool n9,va,vb],.int .i64 4] w fun e w'=>∃ u,e = .returned u∧Qn w' u (fB n9 xs ys) 4 4∧Pl.Ex w w':=by
 obtain ⟨Aa,ca,rfl,-⟩:=U.shape ua
 have iR:Sn (aS xs 4) 4:=Sz.sn (Sz.cut ua false 4 4 (Nat.le_refl 4))
 obtain ⟨Ab,cb,rfl,-⟩:=U.shape ub
 have kY:Sn (aS ys 4) 4:=Sz.sn (Sz.cut ub false 4 4 (Nat.le_refl 4))
 have hcut:=kY
 refine Rf.aA (n:=21) [.a [vB n9,.c 0 0,.c 1 0],vI 4] [[.slice Aa (List.length xs) ca],[.slice Ab (List.length ys) cb]] [(0,(eU xs).S),(1,(eU ys).S)] Tryz.func28 rfl (by kernel_rfl) rfl rfl ⟨RS.in ua,RS.in ub,trivial⟩ ?_
 refine Rf.bu aa 1 0 rfl ?_
 refine Rf.aC 2 _ _ rfl (Pl.en Tryz.func65) (fun α γ w h=>dO 2 (iJ _ _ ys 4 (h.r 1 rfl) (by decide) (by decide) (aS ys 4) rfl)) ?_
 refine Rf.bY aa 0 2 rfl ?_
 refine Rf.dD ((limbs (aS ys 4)).length) Tryz.underlying24 rfl rfl rfl rfl rfl rfl (fun w f h=>Un.jX h) ?_
 refine Rf.ah (v:=.bool false) (fun X=>aK (fun h=>h0 (by rw [Int.ofNat_eq_zero,jQ] at h;exact h)) X) rfl ?_
 refine Rf.bY aa 2 2 rfl ?_
 refine Rf.aC 3 _ _ rfl (Pl.en Tryz.func67) (fun α γ w h=>gz 3 (gN _ _ n9 xs (h.r 0 rfl))) ?_
 refine Rf.ay aa 2 rfl ?_
 refine Rf.aC 4 _ _ rfl (Pl.en Tryz.func68) (fun α γ w h=>gz 4 (fA _ _ (aS ys 4) (h.r 2 rfl))) ?_
 refine Rf.aC 5 _ _ rfl (Pl.en Tryz.func66) (fun α γ w h=>iP 5 (iK _ _ _ (sg n9 (aS xs 4)) (((aS ys 4):Nat):Int) _ (h.r 3 rfl) (h.r 4 rfl) 4 4 (nM iR) (Sn.sz hcut) (by decide) (by decide) (by omega) rfl)) ?_
 refine Rf.HY aa 0 2 rfl ?_
 exact Rf.aI aa (fun _ _ h=>h) rfl rfl (fun α γ w h=>⟨_,rfl,by unfold fB;rw [if_neg h0];exact Qn.le (h.r 5 rfl) (by decide) (by decide),h.ex⟩)
theorem gP (w:World) (va vb:Value) (n9:Bool) (xs ys:List Nat) (ua:U w va xs) (ub:U w vb ys) :
  Calls Tryz.prog 28 #[.agg #[.bool n9,va,vb],.int .i64 4] w fun e w'=>∃ u,e = .returned u∧Qn w' u (fB n9 xs ys) 4 4∧Pl.Ex w w':=by
 by_cases h:aS ys 4=0
 · exact pq w va vb n9 xs ys ua ub h
 · exact pz w va vb n9 xs ys ua ub h
end Go.Proofs.YtgcieamfidoaoaaGreatDoor
namespace Go.Proofs.YtgcieamfidoaoaaGreatDoor
open Go.RowKit Rf Fm
set_option maxRecDepth 100000
theorem YF {b p:Nat} {m e:Int}:(nK b p m e).2≤e+1:=by unfold nK;split<;>simp<;>omega
theorem Oq {b p:Nat} {hi:Int} {d:Nat} {neg:Bool} {m e:Int} (h:(nK b p m e).2≤hi) {x:Fl} (hx:res b p hi d neg m e=x):x = .zero neg∨x = .fin neg (nK b p m e).1 (nK b p m e).2:=by
 subst hx
 unfold res
 split
 · exact .inl rfl
 · first | exact .inr rfl | (rw [if_pos h];exact .inr rfl)
theorem Kq (q:Rat):(if q<0 then -q else q)≤((q.num.natAbs:Int):Rat):=by
 have h:=xD q
 have h0:=zX q
 have hd:(1:Rat)≤(((q.den:Nat):Int):Rat):=by
  have:=Rat.intCast_le_intCast.2 (show (1:Int)≤((q.den:Nat):Int) by have:=q.den_pos;omega)
  exact this
 have h1:=Rat.mul_le_mul_of_nonneg_left hd h0
 rw [Rat.mul_one] at h1
 have h2:(((q.num.natAbs:Nat):Int):Rat)/(((q.den:Nat):Int):Rat)*(((q.den:Nat):Int):Rat)=(((q.num.natAbs:Nat):Int):Rat):=Rat.div_mul_cancel (by grind)
 rw [← h] at h2
 rw [h2] at h1
 exact h1
theorem Q5 {b p:Nat} (hb:2≤b) (hp:1≤p) {lo:Int} (h10:lo≤10) {d:Nat} {q:Rat} (hz:Sz q.num 4) {x:Fl} (hx:rd b p lo 300 d q=x) :
  (∃ n,x = .zero n)∨∃ n m e,x = .fin n m e∧vl b m e≤2*((q.num.natAbs:Int):Rat)+bp b 10:=by
 have h1:=vL hb hp lo 300 d q
 rw [hx] at h1
 rcases h1 with ⟨_,h2⟩ | ⟨hq,f,hf,h3⟩
 · exact .inl ⟨_,h2⟩
 · have hfb:=J9 hb (Sz.le hz (by decide)) hf
   have hn:=YF (b:=b) (p:=p) (m:=lY b d (decide (q<0)) (if q<0 then -q else q) f) (e:=f)
   rcases Oq (by omega) h3.symm with h4 | h4
   · exact .inl ⟨_,h4⟩
   · refine .inr ⟨_,_,_,h4,?_⟩
     rw [oQ hb hp]
     have hS:=Bh hq
     have hS2:=Kq q
     have ha:=UM (b:=b) (dg b (if q<0 then -q else q) f) f
     have hbf:=tC hb f
     have hle:vl b (lY b d (decide (q<0)) (if q<0 then -q else q) f) f≤vl b (dg b (if q<0 then -q else q) f) f+bp b f:=by
      rcases uP b d (decide (q<0)) (if q<0 then -q else q) f with h5 | h5
      · rw [h5];grind
      · rw [h5,ha];exact Rat.le_refl
     have hdl:=vK hb (if q<0 then -q else q) f
     have aiG:=tC hb 10
     have hbb:bp b f≤(if q<0 then -q else q)+bp b 10:=by
      rcases hf.2.2 with h6 | h6
      · have:=UL hb (show f≤10 by omega);grind
      · have h7:(1:Int)≤dg b (if q<0 then -q else q) f:=by have:=Nat.pow_pos (n:=p-1) (show 0<b by omega);omega
        have h8:=(pV (b:=b) (e:=f) hb).2 h7
        have h9:vl b 1 f=bp b f:=by unfold vl;rw [Rat.intCast_one,Rat.one_mul]
        grind
     grind
theorem UW {b p:Nat} {lo:Int} (hf:fT b p lo 300) (h10:lo≤10) (hlo : -31≤lo) {d:Nat} {q:Rat} (hz:Sz q.num 4) {n:Bool} {m e:Int} (hx:rd b p lo 300 d q = .fin n m e):Sz (vf b (.fin n m e)).num 9∧Sn (vf b (.fin n m e)).den 9:=by
 have hok:bO b p lo 300 (.fin n m e):=by rw [← hx];exact jS hf.b2 hf.p1 hf.l
 have hm:=hok.1.2.1
 have he1:=hok.1.1
 have he2:=hok.2
 have hs:=qb hf hok
 by_cases h:0≤e
 · obtain ⟨k,rfl⟩:∃ k:Nat,e=(k:Int):=⟨e.toNat,by omega⟩
   rw [Qx (Int.le_of_lt hm)]
   refine ⟨?_,(Sn.le (Sn.of (by decide):Sn 1 1) (by decide):Sn 1 9)⟩
   rcases Q5 hf.b2 hf.p1 h10 hz hx with ⟨n',h1⟩ | ⟨n',m',e',h1,h2⟩
   · cases h1
   · cases h1
     have h3:vl b m (k:Int)=(((m*((b^k:Nat):Int)):Int):Rat):=by unfold vl;rw [ry,Rat.intCast_mul]
     have h4:(2:Rat)*((q.num.natAbs:Int):Rat)+bp b 10=(((2*(q.num.natAbs:Int)+((b^10:Nat):Int)):Int):Rat):=by
      rw [Rat.intCast_add,Rat.intCast_mul,show bp b 10=bp b ((10:Nat):Int) from rfl,ry];rfl
     rw [h3,h4] at h2
     have h5:=Rat.intCast_le_intCast.1 h2
     have h6:=(Sz.sn hz).lt
     have h7:b^10≤16^10:=J4 hf.r 10
     have h8:(16:Nat)^10=1099511627776:=by decide
     have h9:(4294967296:Nat)^4=340282366920938463463374607431768211456:=by decide
     have hA:(4294967296:Nat)^5=1461501637330902918203684832716283019655932542976:=by decide
     have hN:((m.natAbs:Nat):Int)=m:=by omega
     have hB:(sg n m.natAbs*((b^k:Nat):Int)).natAbs=m.natAbs*b^k:=by rw [Int.natAbs_mul,lZ,Int.natAbs_natCast]
     have hC:((m.natAbs*b^k:Nat):Int)=m*((b^k:Nat):Int):=by rw [Int.natCast_mul,hN]
     have hD:m.natAbs*b^k<4294967296^5:=by rw [hA];rw [h9] at h6;omega
     show (limbs (sg n m.natAbs*((b^k:Nat):Int)).natAbs).length≤9
     rw [hB]
     exact Sn.le (Sn.of hD) (by decide)
 · obtain ⟨k,rfl⟩:∃ k:Nat,e = -(k:Int):=⟨(-e).toNat,by omega⟩
   rw [Bi hf.b2 (Int.le_of_lt hm)]
   have h3:=Cn (n:=sg n m.natAbs) (d:=b^k) (K:=3) (N:=4) (Nat.pos_iff_ne_zero.1 (Nat.pow_pos (by have:=hf.b2;omega))) (nM hs) (bK hf.r (by omega))
   exact ⟨Sz.le h3.1 (by decide),Sn.le h3.2 (by decide)⟩
end Go.Proofs.YtgcieamfidoaoaaGreatDoor
namespace Go.Proofs.YtgcieamfidoaoaaGreatDoor
open Go.RowKit Rf Fm
set_option maxRecDepth 100000
theorem zg {n:Bool} {xs ys:List Nat} (h:Sn (aS xs 4) 4) (g:Sn (aS ys 4) 4):Sz (fB n xs ys).num 4:=by
 unfold fB
 split
 · exact (Cn (d:=1) (K:=4) (N:=1) (by decide) (nM h) (Sn.of (by decide))).1
 · rename_i h0;exact (Cn (K:=4) (N:=4) h0 (nM h) g).1
theorem FD (w:World) (m0:Bool) (vp:Value) (zs0:List Nat) (up:U w vp zs0) (vd:Value) (ds0:List Nat) (ud:U w vd ds0) (r9 p9 l9 h9:Int) (a9 c9:Nat) (ha9:a9<256) (hc9:c9<256) (hxk:∃ n,rd (dw r9) (fu p9+a9%8) (dY l9-((a9%8:Nat):Int)) 300 (2+c9%3) (fB m0 zs0 ds0) = .zero n) :
  Calls Tryz.prog 11 #[.agg #[.bool m0,vp,vd],.agg #[.int .i64 r9,.int .i64 p9,.int .i64 l9,.int .i64 h9],.agg #[.int .u8 ((a9:Nat):Int),.int .u8 ((c9:Nat):Int)]] w fun e w'=>e = .returned (.bool true)∧Pl.Ex w w':=by
 obtain ⟨Ap,cp,rfl,-⟩:=U.shape up
 obtain ⟨Ad,cd,rfl,-⟩:=U.shape ud
 obtain ⟨w9,wH⟩:∃ q,fB m0 zs0 ds0=q:=⟨_,rfl⟩
 obtain ⟨b,hb⟩:∃ x,dw r9=x:=⟨_,rfl⟩
 obtain ⟨p,hp⟩:∃ x,fu p9=x:=⟨_,rfl⟩
 obtain ⟨lo,hlo⟩:∃ x,dY l9=x:=⟨_,rfl⟩
 obtain ⟨hi,hhi⟩:∃ x,fD l9 h9=x:=⟨_,rfl⟩
 have hfm:=jM r9 p9 l9 h9
 rw [hb,hp,hlo,hhi] at hfm
 obtain ⟨hf,Fw,Fx,Fy⟩:=hfm
 have f1:=hf.p1
 have f2:=hf.ku
 have f3:=hf.l
 have f4:=hf.l1
 have f5:=hf.h1
 have hb2:=hf.b2
 have hw4:Sz w9.num 4:=by rw [← wH];exact zg (Sz.sn (Sz.cut up false 4 4 (Nat.le_refl 4))) (Sz.sn (Sz.cut ud false 4 4 (Nat.le_refl 4)))
 have abA:lo≤10:=by rw [← hlo];unfold dY;omega
 obtain ⟨k,hk⟩:∃ k,a9%8=k:=⟨_,rfl⟩
 have hk7:k≤7:=by omega
 obtain ⟨d,hd⟩:∃ d,2+c9%3=d:=⟨_,rfl⟩
 have hd3:d=2∨d=3∨d=4:=by omega
 have hd5:d<5:=by omega
 have hY:∃ n,rd b (p+k) (lo-(k:Int)) 300 d w9 = .zero n:=by subst hb hp hlo hhi wH hk hd;exact hxk
 have hfw:fT b (p+k) (lo-(k:Int)) 300:=⟨hf.r,by omega,by omega,by omega,by omega,by omega⟩
 have hfg:fT b p lo 300:=⟨hf.r,f1,f2,by omega,f4,by omega⟩
 obtain ⟨n9,hY⟩:=hY
 obtain ⟨j9,hW⟩:=Ol (hi:=300) hb2 f1 k hd3 (by omega) hY
 have hZ:rd b p lo 300 d (vf b (.zero n9)) = .zero false:=uM hb2 f1
 have hus:Sz (vf b (.zero n9)).num 9∧Sn (vf b (.zero n9)).den 9:=⟨(Sz.zero:Sz (0:Int) 9),(Sn.le (Sn.of (by decide):Sn 1 1) (by decide):Sn 1 9)⟩
 have oY:bO b (p+k) (lo-(k:Int)) 300 (.zero n9):=trivial
 refine Rf.aA (n:=117) [.a [vB m0,.c 0 0,.c 1 0],.a [vI r9,vI p9,vI l9,vI h9],.a [.v (.int .u8 ((a9:Nat):Int)),.v (.int .u8 ((c9:Nat):Int))]] [[.slice Ap (List.length zs0) cp],[.slice Ad (List.length ds0) cd]] [(0,(eU zs0).S),(1,(eU ds0).S)] Tryz.func11 rfl (by kernel_rfl) rfl rfl ⟨RS.in up,RS.in ud,trivial⟩ ?_
 refine Rf.bu aa 1 0 rfl ?_
 refine Rf.aC 2 _ _ rfl (Pl.en Tryz.func12) (fun α γ w h=>aU 2 (iO _)) ?_
 refine Rf.HY aa 0 3 rfl ?_
 refine Rf.aQ none fo ?_
 refine Rf.aD aa 14 3 rfl ?_
 refine Rf.ak 3 (pI w9 4 4) (.a [.c 3 0,.c 3 1,.c 3 2]) rfl (Pl.en Tryz.func28) (fun α γ w h=>by have h9:=gP _ _ _ m0 zs0 ds0 (h.r 0 rfl) (h.r 1 rfl);rw [wH] at h9;exact iP 3 h9) ?_
 refine Rf.aD aa 14 3 rfl ?_
 refine Rf.ak 4 (TR) (.a [vI ((b:Nat):Int),vI ((p:Nat):Int),vI lo,vI hi]) rfl (Pl.en Tryz.func29) (fun α γ w h=>xE (.a [vI ((b:Nat):Int),vI ((p:Nat):Int),vI lo,vI hi]) 4 (fun _ _=>rfl) (by have h9:=iq w r9 p9 l9 h9;rw [hb,hp,hlo,hhi] at h9;exact h9)) ?_
 refine Rf.qw (j:=1) (q':=1) (s:=1) Tryz.underlying64 (by kernel_rfl) rfl (by decide) rfl rfl rfl rfl rfl rfl rfl rfl rfl ?_
 refine Rf.aD aa 14 3 rfl ?_
 refine Rf.abz ((c9:Nat):Int) Tryz.underlying3 (by kernel_rfl) (Pl.oC (by omega) (by omega)) rfl rfl rfl rfl rfl rfl rfl ?_
 refine Rf.Be (vI (((c9%3):Nat):Int)) rfl rfl rfl rfl rfl rfl rfl rfl rfl rfl (fun α γ w h=>(bF (a:=c9) (b:=3) (by omega) (by omega)) w) ?_
 refine Rf.dL (vI ((d:Nat):Int)) rfl (fun α γ w h=>(fun X=>(bD (a:=2) (b:=c9%3) (by omega) X).trans (by subst hd;rfl)) w) ?_
 refine Rf.aD aa 14 3 rfl ?_
 refine Rf.aW (by kernel_rfl) ?_
 refine Rf.aP [5,6,7,8,9,10] [2,3,4] [3] rfl ?_
 refine Rf.bu aa 0 5 rfl ?_
 refine Rf.Mg (j:=0) (q':=0) (s:=1) Tryz.underlying64 (by kernel_rfl) rfl (by decide) rfl rfl rfl rfl rfl rfl rfl ?_
 refine Rf.ay aa 5 rfl ?_
 refine Rf.oO ((a9:Nat):Int) Tryz.underlying3 (by kernel_rfl) (Pl.oC (by omega) (by omega)) rfl rfl rfl rfl rfl ?_
 refine Rf.ah (v:=.int .i64 ((k:Nat):Int)) (fun X=>(bF (a:=a9) (b:=8) (by decide) (Nat.le_refl _) X).trans (by rw [hk])) rfl ?_
 refine Rf.ah (v:=.int .i64 (((p+k):Nat):Int)) (bD (a:=p) (b:=k) (by omega)) rfl ?_
 refine Rf.ay aa 5 rfl ?_
 refine Rf.Mg (j:=0) (q':=0) (s:=1) Tryz.underlying64 (by kernel_rfl) rfl (by decide) rfl rfl rfl rfl rfl rfl rfl ?_
 refine Rf.ay aa 5 rfl ?_
 refine Rf.oO ((a9:Nat):Int) Tryz.underlying3 (by kernel_rfl) (Pl.oC (by omega) (by omega)) rfl rfl rfl rfl rfl ?_
 refine Rf.ah (v:=.int .i64 ((k:Nat):Int)) (fun X=>(bF (a:=a9) (b:=8) (by decide) (Nat.le_refl _) X).trans (by rw [hk])) rfl ?_
 refine Rf.ah (v:=.int .i64 (lo-((k:Nat):Int))) (fun X=>eH (by omega) X) rfl ?_
 refine Rf.gU (.a [vI ((b:Nat):Int),vI (((p+k):Nat):Int),vI (lo-((k:Nat):Int)),vI 300]) rfl rfl rfl (fun _ _=>rfl) (fun α γ X=>by kernel_rfl) ?_
 refine Rf.bY aa 1 5 rfl ?_
 refine Rf.aC 5 (dW (mn (.zero n9))) (.t [.a [vI 0,vB n9,.c 5 0,vI 0],vI 0]) rfl (Pl.en Tryz.func30) (fun α γ w h=>dP 5 (by have h9:=aR w _ w9 (Qn.le (h.r 3 rfl) (by decide) (by decide)) b (p+k) (lo-(k:Int)) 300 hfw d hd5;rw [hY] at h9;exact h9)) ?_
 refine Rf.bY aa 0 6 rfl ?_
 refine Rf.aC 6 (pI (vf b (.zero n9)) 9 9) (.t [.a [.c 6 0,.c 6 1,.c 6 2],vT]) rfl (Pl.en Tryz.func19) (fun α γ w h=>nJ 6 (Calls.mono (vP w _ (.zero n9) (Fv.mk (x:=(.zero n9)) (h.r 5 rfl)) b (p+k) (lo-(k:Int)) 300 hfw oY (fun _ h=>nomatch h) 38 (by omega) (by omega) (by decide) (by decide)) fun e w2 ⟨u,h1,h2,h3⟩=>⟨u,h1,Qn.re h2 hus.1 hus.2,h3⟩)) ?_
 refine Rf.bY aa 0 7 rfl ?_
 refine Rf.ah (v:=.bool false) (fun X=>bE (by decide) X) rfl ?_
 refine Rf.ay aa 8 rfl ?_
 refine Rf.aV (.bool false) rfl (fun X=>aT _ X) ?_
 refine Rf.bY aa 2 8 rfl ?_
 refine Rf.aC 7 (dW (mn (.zero false))) (.t [.a [vI 0,vF,.c 7 0,vI 0],vI 0]) rfl (Pl.en Tryz.func30) (fun α γ w h=>dP 7 (by have h9:=aR w _ (vf b (.zero n9)) (h.r 6 rfl) b p lo 300 hfg d hd5;rw [hZ] at h9;exact h9)) ?_
 refine Rf.bY aa 0 8 rfl ?_
 refine Rf.aC 8 (dW (mn (.zero j9))) (.t [.a [vI 0,vB j9,.c 8 0,vI 0],vI 0]) rfl (Pl.en Tryz.func30) (fun α γ w h=>dP 8 (by have h9:=aR w _ w9 (Qn.le (h.r 3 rfl) (by decide) (by decide)) b p lo 300 hfg d hd5;rw [hW] at h9;exact h9)) ?_
 refine Rf.bY aa 0 9 rfl ?_
 refine Rf.ah (v:=.bool true) (fun X=>aM (by decide) X) rfl ?_
 refine Rf.bY aa 1 10 rfl ?_
 refine Rf.ah (v:=.bool true) (fun X=>aM (by decide) X) rfl ?_
 refine Rf.ay aa 10 rfl ?_
 refine Rf.ah (v:=.bool true) (fun X=>aM (by decide) X) rfl ?_
 refine Rf.ay aa 10 rfl ?_
 refine Rf.ah (v:=.bool true) (fun X=>aM (by decide) X) rfl ?_
 refine Rf.ay aa 10 rfl ?_
 refine Rf.ah (v:=.bool true) (fun X=>aM (by decide) X) rfl ?_
 refine Rf.HY aa 0 10 rfl ?_
 exact Rf.aI aa (fun _ _ h=>h) rfl rfl (fun α γ w h=>⟨rfl,h.ex⟩)
theorem FE (w:World) (m0:Bool) (vp:Value) (zs0:List Nat) (up:U w vp zs0) (vd:Value) (ds0:List Nat) (ud:U w vd ds0) (r9 p9 l9 h9:Int) (a9 c9:Nat) (ha9:a9<256) (hc9:c9<256) (hxk:∃ n m e,rd (dw r9) (fu p9+a9%8) (dY l9-((a9%8:Nat):Int)) 300 (2+c9%3) (fB m0 zs0 ds0) = .fin n m e) :
  Calls Tryz.prog 11 #[.agg #[.bool m0,vp,vd],.agg #[.int .i64 r9,.int .i64 p9,.int .i64 l9,.int .i64 h9],.agg #[.int .u8 ((a9:Nat):Int),.int .u8 ((c9:Nat):Int)]] w fun e w'=>e = .returned (.bool true)∧Pl.Ex w w':=by
 obtain ⟨Ap,cp,rfl,-⟩:=U.shape up
 obtain ⟨Ad,cd,rfl,-⟩:=U.shape ud
 obtain ⟨w9,wH⟩:∃ q,fB m0 zs0 ds0=q:=⟨_,rfl⟩
 obtain ⟨b,hb⟩:∃ x,dw r9=x:=⟨_,rfl⟩
 obtain ⟨p,hp⟩:∃ x,fu p9=x:=⟨_,rfl⟩
 obtain ⟨lo,hlo⟩:∃ x,dY l9=x:=⟨_,rfl⟩
 obtain ⟨hi,hhi⟩:∃ x,fD l9 h9=x:=⟨_,rfl⟩
 have hfm:=jM r9 p9 l9 h9
 rw [hb,hp,hlo,hhi] at hfm
 obtain ⟨hf,Fw,Fx,Fy⟩:=hfm
 have f1:=hf.p1
 have f2:=hf.ku
 have f3:=hf.l
 have f4:=hf.l1
 have f5:=hf.h1
 have hb2:=hf.b2
 have hw4:Sz w9.num 4:=by rw [← wH];exact zg (Sz.sn (Sz.cut up false 4 4 (Nat.le_refl 4))) (Sz.sn (Sz.cut ud false 4 4 (Nat.le_refl 4)))
 have abA:lo≤10:=by rw [← hlo];unfold dY;omega
 obtain ⟨k,hk⟩:∃ k,a9%8=k:=⟨_,rfl⟩
 have hk7:k≤7:=by omega
 obtain ⟨d,hd⟩:∃ d,2+c9%3=d:=⟨_,rfl⟩
 have hd3:d=2∨d=3∨d=4:=by omega
 have hd5:d<5:=by omega
 have hY:∃ n m e,rd b (p+k) (lo-(k:Int)) 300 d w9 = .fin n m e:=by subst hb hp hlo hhi wH hk hd;exact hxk
 have hfw:fT b (p+k) (lo-(k:Int)) 300:=⟨hf.r,by omega,by omega,by omega,by omega,by omega⟩
 have hfg:fT b p lo 300:=⟨hf.r,f1,f2,by omega,f4,by omega⟩
 obtain ⟨n9,m9,q9,hY⟩:=hY
 have hw0:w9≠0:=fun h=>by rw [h,uM hb2 (by omega)] at hY;cases hY
 obtain ⟨v9,hW⟩:∃ x,rd b p lo 300 d w9=x:=⟨_,rfl⟩
 have hZ:rd b p lo 300 d (vf b (.fin n9 m9 q9))=v9:=by rw [UN hb2 f1 k hd3 (by omega) hw0 (fun f hf=>by have:=J9 hb2 (Sz.le hw4 (by decide)) hf;omega) hY];exact hW
 have hus:=UW hfw (by omega) (by omega) hw4 hY
 have oY:bO b (p+k) (lo-(k:Int)) 300 (.fin n9 m9 q9):=by rw [← hY];exact jS hb2 (by omega) (by omega)
 refine Rf.aA (n:=117) [.a [vB m0,.c 0 0,.c 1 0],.a [vI r9,vI p9,vI l9,vI h9],.a [.v (.int .u8 ((a9:Nat):Int)),.v (.int .u8 ((c9:Nat):Int))]] [[.slice Ap (List.length zs0) cp],[.slice Ad (List.length ds0) cd]] [(0,(eU zs0).S),(1,(eU ds0).S)] Tryz.func11 rfl (by kernel_rfl) rfl rfl ⟨RS.in up,RS.in ud,trivial⟩ ?_
 refine Rf.bu aa 1 0 rfl ?_
 refine Rf.aC 2 _ _ rfl (Pl.en Tryz.func12) (fun α γ w h=>aU 2 (iO _)) ?_
 refine Rf.HY aa 0 3 rfl ?_
 refine Rf.aQ none fo ?_
 refine Rf.aD aa 14 3 rfl ?_
 refine Rf.ak 3 (pI w9 4 4) (.a [.c 3 0,.c 3 1,.c 3 2]) rfl (Pl.en Tryz.func28) (fun α γ w h=>by have h9:=gP _ _ _ m0 zs0 ds0 (h.r 0 rfl) (h.r 1 rfl);rw [wH] at h9;exact iP 3 h9) ?_
 refine Rf.aD aa 14 3 rfl ?_
 refine Rf.ak 4 (TR) (.a [vI ((b:Nat):Int),vI ((p:Nat):Int),vI lo,vI hi]) rfl (Pl.en Tryz.func29) (fun α γ w h=>xE (.a [vI ((b:Nat):Int),vI ((p:Nat):Int),vI lo,vI hi]) 4 (fun _ _=>rfl) (by have h9:=iq w r9 p9 l9 h9;rw [hb,hp,hlo,hhi] at h9;exact h9)) ?_
 refine Rf.qw (j:=1) (q':=1) (s:=1) Tryz.underlying64 (by kernel_rfl) rfl (by decide) rfl rfl rfl rfl rfl rfl rfl rfl rfl ?_
 refine Rf.aD aa 14 3 rfl ?_
 refine Rf.abz ((c9:Nat):Int) Tryz.underlying3 (by kernel_rfl) (Pl.oC (by omega) (by omega)) rfl rfl rfl rfl rfl rfl rfl ?_
 refine Rf.Be (vI (((c9%3):Nat):Int)) rfl rfl rfl rfl rfl rfl rfl rfl rfl rfl (fun α γ w h=>(bF (a:=c9) (b:=3) (by omega) (by omega)) w) ?_
 refine Rf.dL (vI ((d:Nat):Int)) rfl (fun α γ w h=>(fun X=>(bD (a:=2) (b:=c9%3) (by omega) X).trans (by subst hd;rfl)) w) ?_
 refine Rf.aD aa 14 3 rfl ?_
 refine Rf.aW (by kernel_rfl) ?_
 refine Rf.aP [5,6,7,8,9,10] [2,3,4] [3] rfl ?_
 refine Rf.bu aa 0 5 rfl ?_
 refine Rf.Mg (j:=0) (q':=0) (s:=1) Tryz.underlying64 (by kernel_rfl) rfl (by decide) rfl rfl rfl rfl rfl rfl rfl ?_
 refine Rf.ay aa 5 rfl ?_
 refine Rf.oO ((a9:Nat):Int) Tryz.underlying3 (by kernel_rfl) (Pl.oC (by omega) (by omega)) rfl rfl rfl rfl rfl ?_
 refine Rf.ah (v:=.int .i64 ((k:Nat):Int)) (fun X=>(bF (a:=a9) (b:=8) (by decide) (Nat.le_refl _) X).trans (by rw [hk])) rfl ?_
 refine Rf.ah (v:=.int .i64 (((p+k):Nat):Int)) (bD (a:=p) (b:=k) (by omega)) rfl ?_
 refine Rf.ay aa 5 rfl ?_
 refine Rf.Mg (j:=0) (q':=0) (s:=1) Tryz.underlying64 (by kernel_rfl) rfl (by decide) rfl rfl rfl rfl rfl rfl rfl ?_
 refine Rf.ay aa 5 rfl ?_
 refine Rf.oO ((a9:Nat):Int) Tryz.underlying3 (by kernel_rfl) (Pl.oC (by omega) (by omega)) rfl rfl rfl rfl rfl ?_
 refine Rf.ah (v:=.int .i64 ((k:Nat):Int)) (fun X=>(bF (a:=a9) (b:=8) (by decide) (Nat.le_refl _) X).trans (by rw [hk])) rfl ?_
 refine Rf.ah (v:=.int .i64 (lo-((k:Nat):Int))) (fun X=>eH (by omega) X) rfl ?_
 refine Rf.gU (.a [vI ((b:Nat):Int),vI (((p+k):Nat):Int),vI (lo-((k:Nat):Int)),vI 300]) rfl rfl rfl (fun _ _=>rfl) (fun α γ X=>by kernel_rfl) ?_
 refine Rf.bY aa 1 5 rfl ?_
 refine Rf.aC 5 (dW (mn (.fin n9 m9 q9))) (.t [.a [vI 1,vB n9,.c 5 0,vI q9],vI 0]) rfl (Pl.en Tryz.func30) (fun α γ w h=>dP 5 (by have h9:=aR w _ w9 (Qn.le (h.r 3 rfl) (by decide) (by decide)) b (p+k) (lo-(k:Int)) 300 hfw d hd5;rw [hY] at h9;exact h9)) ?_
 refine Rf.bY aa 0 6 rfl ?_
 refine Rf.aC 6 (pI (vf b (.fin n9 m9 q9)) 9 9) (.t [.a [.c 6 0,.c 6 1,.c 6 2],vT]) rfl (Pl.en Tryz.func19) (fun α γ w h=>nJ 6 (Calls.mono (vP w _ (.fin n9 m9 q9) (Fv.mk (x:=(.fin n9 m9 q9)) (h.r 5 rfl)) b (p+k) (lo-(k:Int)) 300 hfw oY (fun _ h=>nomatch h) 38 (by omega) (by omega) (by decide) (by decide)) fun e w2 ⟨u,h1,h2,h3⟩=>⟨u,h1,Qn.re h2 hus.1 hus.2,h3⟩)) ?_
 refine Rf.bY aa 0 7 rfl ?_
 refine Rf.ah (v:=.bool false) (fun X=>bE (by decide) X) rfl ?_
 refine Rf.ay aa 8 rfl ?_
 refine Rf.aV (.bool false) rfl (fun X=>aT _ X) ?_
 refine Rf.bY aa 2 8 rfl ?_
 refine Rf.aC 7 (dW (mn v9)) (.t [.a [vI (kd v9),vB (ng v9),.c 7 0,vI (xp v9)],vI 0]) rfl (Pl.en Tryz.func30) (fun α γ w h=>dP 7 (by have h9:=aR w _ (vf b (.fin n9 m9 q9)) (h.r 6 rfl) b p lo 300 hfg d hd5;rw [hZ] at h9;exact h9)) ?_
 refine Rf.bY aa 0 8 rfl ?_
 refine Rf.aC 8 (dW (mn v9)) (.t [.a [vI (kd v9),vB (ng v9),.c 8 0,vI (xp v9)],vI 0]) rfl (Pl.en Tryz.func30) (fun α γ w h=>dP 8 (by have h9:=aR w _ w9 (Qn.le (h.r 3 rfl) (by decide) (by decide)) b p lo 300 hfg d hd5;rw [hW] at h9;exact h9)) ?_
 refine Rf.bY aa 0 9 rfl ?_
 refine Rf.ah (v:=.bool false) (fun X=>aK (by decide) X) rfl ?_
 refine Rf.bY aa 2 10 rfl ?_
 refine Rf.ah (v:=.bool true) (fun X=>aM (by decide) X) rfl ?_
 refine Rf.ay aa 10 rfl ?_
 refine Rf.ah (v:=.bool true) (fun X=>aM (by decide) X) rfl ?_
 refine Rf.ay aa 10 rfl ?_
 refine Rf.aC 9 _ _ rfl (Pl.en Tryz.func21) (fun α γ w h=>aU 9 (bH w _ _ v9 v9 (Fv.mk (x:=v9) (h.r 7 rfl)) (Fv.mk (x:=v9) (h.r 8 rfl)) rfl)) ?_
 refine Rf.HY aa 0 10 rfl ?_
 exact Rf.aI aa (fun _ _ h=>h) rfl rfl (fun α γ w h=>⟨rfl,h.ex⟩)
theorem AR (w:World) (m0:Bool) (vp:Value) (zs0:List Nat) (up:U w vp zs0) (vd:Value) (ds0:List Nat) (ud:U w vd ds0) (r9 p9 l9 h9:Int) (a9 c9:Nat) (ha9:a9<256) (hc9:c9<256) :
  Calls Tryz.prog 11 #[.agg #[.bool m0,vp,vd],.agg #[.int .i64 r9,.int .i64 p9,.int .i64 l9,.int .i64 h9],.agg #[.int .u8 ((a9:Nat):Int),.int .u8 ((c9:Nat):Int)]] w fun e w'=>e = .returned (.bool true)∧Pl.Ex w w':=by
 have hfm:=jM r9 p9 l9 h9
 have hb2:=hfm.1.b2
 have f1:=hfm.1.p1
 have hl:=hfm.1.l
 have abA:dY l9≤10:=by unfold dY;omega
 rcases Q5 (p:=fu p9+a9%8) (lo:=dY l9-((a9%8:Nat):Int)) (d:=2+c9%3) hb2 (by omega) (by omega) (zg (n:=m0) (Sz.sn (Sz.cut up false 4 4 (Nat.le_refl 4))) (Sz.sn (Sz.cut ud false 4 4 (Nat.le_refl 4)))) rfl with h | ⟨n,m,e,h,_⟩
 · exact FD w m0 vp zs0 up vd ds0 ud r9 p9 l9 h9 a9 c9 ha9 hc9 h
 · exact FE w m0 vp zs0 up vd ds0 ud r9 p9 l9 h9 a9 c9 ha9 hc9 ⟨n,m,e,h⟩
end Go.Proofs.YtgcieamfidoaoaaGreatDoor
namespace Go.Proofs.YtgcieamfidoaoaaGreatDoor
open Go.ChangeShapes Go.WideShapes Go.ChangeAt Go.RowKit
set_option maxRecDepth 100000
theorem xW (os:Os) (started:os.Started) (H:Type) (enc:TypeId × Value→H) :
  ReturnsInHanded {} Tryz.checked os 11 .any (fun w args=>(Rows.formatMoreSpec.pre enc Tryz.prog Tryz.f11 [] false w args∧laidMetH Tryz.prog jY w)∧sizedMet enc Tryz.prog Tryz.f11 (OpenSpec.ofChange Rows.formatMoreSpec) false w args)
   (Rows.formatMoreSpec.post enc Tryz.prog Tryz.f11 false true false false):=by
 refine returnsInHanded_of_change_and (C:=Tryz.checked) (X:=fun w _=>laidMetH Tryz.prog jY w) (fun _ _ _ hh h=>h.of_heap hh) own started (by kernel_rfl) Tryz.func11
  (ChangeSpec.witness_shaped (enc:=enc) (C:=Tryz.checked) (os:=os) (X:=fun w _=>laidMetH Tryz.prog jY w) false (World.doorLaid Tryz.prog 400 os) #[.agg #[.bool false,.slice none 0 0,.slice none 0 0],.agg #[.int .i64 0,.int .i64 0,.int .i64 0,.int .i64 0],.agg #[.int .u8 0,.int .u8 0]] 8 rfl (World.shaped_of_RefB (by kernel_rfl) (by kernel_rfl)) (by kernel_rfl) (by kernel_rfl) (by kernel_rfl) (l5 os _)) ?_
 intro W base args ds gs before hval0 hW _ _ hL _
 have hval:∀ (j:Nat) t v,Tryz.f11.params[j]?=some t→args[j]?=some v→Value.okWide Tryz.prog W .any base t v:=hval0
 have hW':=hW
 obtain ⟨p,q,JR,hV,rfl,hfz,hnd⟩:=hW
 have hA:DataW.TrodAll enc Tryz.prog W 0 (fun _=>true) true Tryz.f11.params.toList args.toList ds p:=JR
 rw [Tryz.params11] at hA hval
 clear JR hval0
 obtain ⟨v0,vs0,d0,ds0,p0,q0,FB,rfl,rfl,h0,r0⟩:=trodAll_cons hA
 obtain ⟨v1,vs1,d1,ds1,p1,q1,rF,rfl,rfl,h1,r1⟩:=trodAll_cons r0
 obtain ⟨v2,vs2,d2,UX,p2,q2,wI,rfl,rfl,h2,r2⟩:=trodAll_cons r1
 obtain ⟨hn1,rfl,rfl⟩:=trodAll_nil r2
 subst hn1
 subst wI
 subst rF
 obtain rfl:args=#[v0,v1,v2]:=by cases args;simp_all
 obtain ⟨rfl,rfl⟩:=trodVars_none hV
 obtain ⟨s0,A0,c0,x0,D0,b0,y0,hv0,u0,t0⟩:=Co (hval 0 36 v0 rfl rfl) h0
 subst hv0
 obtain ⟨a1,YG,l1,g1,hv1⟩:=qA (hval 1 23 v1 rfl rfl) h1
 subst hv1
 obtain ⟨m2,n2,hv2,k2,l2⟩:=UY (hval 2 64 v2 rfl rfl) h2
 subst hv2
 refine (AR W s0 _ x0 u0 _ y0 t0 a1 YG l1 g1 m2 n2 k2 l2).mono fun e W' ⟨he,hB⟩=>?_
 subst he
 exact ⟨_,rfl,l6 hW' rfl (by rw [Tryz.params11];decide +kernel) rfl rfl rfl rfl hB⟩
theorem AU:Rows.FormatMoreSaid :=
 OpenClaim.holds_of_wide 11 Tryz.f11 rfl rfl rfl rfl rfl rfl rfl ⟨rfl,rfl,rfl,rfl,rfl⟩ rfl rfl rfl rfl rfl (by kernel_rfl) Tryz.func11 (by kernel_rfl)
  (of_decide_eq_true (by kernel_rfl)) (by unfold Func.isWrapper;first | (rw [if_pos (by decide +kernel)];kernel_rfl) | (rw [if_neg (by decide +kernel)];exact ⟨rfl,rfl⟩))
  (fun os started H enc _=>xW os started H enc)
theorem formatMore_holds:Rows.FormatMoreCardSaid :=
 Claim7.holds_tied_plain_at .later [] [.wider] true Rows.formatMoreCard.stood.harness false
  AU (fun _ h=>by cases h) (by kernel_rfl) (fun _ h=>by cases h) formatMore_row_tie rfl ⟨rfl,rfl⟩ (by kernel_rfl) rfl
  (fun f fn hf hfn=>by
   obtain rfl:f = 11 := Option.some.inj ((show Tryz.prog.funcNamed "ziggurat/zigguratlaw22.FormatMore" = some 11 by kernel_rfl).symm.trans hf) |>.symm
   obtain rfl:fn=Tryz.f11 := (Option.some.inj (Tryz.func11.symm.trans hfn)).symm
   exact ⟨by kernel_rfl,fun j t ht=>by
    rw [Tryz.params11] at ht
    have hm:t∈[36,23,64]:=by simpa using Array.mem_of_getElem? ht
    have hall:([36,23,64].all fun u=>!Tryz.prog.wantsStandIn u)=true:=by kernel_rfl
    exact (show Tryz.prog.wantsStandIn t=false by simpa using List.all_eq_true.1 hall t hm)⟩)
  (by kernel_rfl)
end Go.Proofs.YtgcieamfidoaoaaGreatDoor
