/- Proved: the statement FormatRounds: what is rounded is as the document says. No condition. -/
import Derived.Test.YtgcieamfidoaoaaGreatDoorEab
import Derived.Test.YtgcieamfidoaoaaGreatDoorEac
import Derived.Test.YtgcieamfidoaoaaGreatDoorEae
import Derived.Test.YtgcieamfidoaoaaGreatDoorEad
import Derived.Test.YtgcieamfidoaoaaGreatDoorEah
import Derived.Test.YtgcieamfidoaoaaGreatDoorEag
import Derived.Test.YtgcieamfidoaoaaGreatDoorEai
import Derived.Test.YtgcieamfidoaoaaGreatDoorEan
import Derived.Test.YtgcieamfidoaoaaGreatDoorEal
import Derived.Test.YtgcieamfidoaoaaGreatDoorEam
import Derived.Test.YtgcieamfidoaoaaGreatDoorEat
import Derived.Test.YtgcieamfidoaoaaGreatDoorEau
import Derived.Test.YtgcieamfidoaoaaGreatDoorEav
import Derived.Test.YtgcieamfidoaoaaGreatDoorEay
import Derived.Test.YtgcieamfidoaoaaGreatDoorEba
import Derived.Test.YtgcieamfidoaoaaGreatDoorEaz
import Derived.Test.YtgcieamfidoaoaaGreatDoorEbb
import Derived.Test.YtgcieamfidoaoaaGreatDoorEbc
import Derived.Test.YtgcieamfidoaoaaGreatDoorEbd
import Derived.Test.YtgcieamfidoaoaaGreatDoorEbf
import Derived.Test.YtgcieamfidoaoaaGreatDoorEbe
import Derived.Test.YtgcieamfidoaoaaGreatDoorEbh
import Derived.Test.YtgcieamfidoaoaaGreatDoorEao
import Derived.Test.YtgcieamfidoaoaaGreatDoorEax
import Derived.Test.YtgcieamfidoaoaaGreatDoorEbu
import Derived.Test.YtgcieamfidoaoaaGreatDoorEbv
import Derived.Test.YtgcieamfidoaoaaGreatDoorEbw
import Derived.Deep.MidRow
import Derived.Deep.WholeRow
import Derived.Laws.CopyOwn
import Derived.WalkKit
import Derived.Laws.EntriesVeiled
import Derived.Deep.AppendSrc
import Derived.Lib.AppendZeros
import Derived.Laws.IdiomStrings
import Derived.Laws.StructEq
import Derived.SevenTiedAt
import Derived.LaidMore
import Derived.Stop.Joined
import Derived.JoinedOf
import Derived.JoinedAt
import Derived.Lib.SmallJoins
import Derived.Laws.IdiomArrays
import Derived.WideKeyPair
import Derived.WideKeyArr2
import Derived.Deep.Cut
import Derived.Deep.RegionHeld3

set_option linter.all false
set_option maxHeartbeats 8000000
namespace Go.Proofs.YtgcieamfidoaoaaGreatDoor.Pl
open Go
set_option maxRecDepth 100000
theorem w32 {z:Int} (h1:0≤z) (h2:z<4294967296):IntKind.u32.wrap z=z:=by
 simp only [IntKind.wrap,IntKind.signed,IntKind.bits];simp;omega
section
variable {P:Program} {T:TypeId} {x y:Operand} {k k':IntKind} {a b c:Int} {v:Bool}
theorem rY (h0:b≠0) (h:a.tmod b=c) (X:World):Bn P .rem T x y (.int k a) (.int k b) X = .ok (.int k c) X:=by
 subst h;simp [Bn,eqGuard,binOp,Op.intDiv,h0]
end
section
variable {P:Program} {L:List Oper} {S:World→Prop} {K:List (Nat × Value)→World→Prop} {k:Bool} {i m d:Nat} {o:Oper} {r:List (Bool × Nat × Nat)} {l:List (Nat × Value)} {w w':World} {v:Value}
theorem xI {x:Operand} {s t:TypeId} {kd kd':IntKind} {a c:Int} (hu:P.underlying t=some (.int kd')) (hs:(P.underlying s).isSome=true) (h1:kd'.wrap a=c) (hS:S w) (ho:nth L i=some o) (hop:o.op = .convert s t x) (hd:o.dst=some d) (hg:gd L l o.guard=some true) (hx:dK l x=some (.int kd a))
  (h:fF P L S K r ((d,.int kd' c)::l) w):fF P L S K ((k,i,m)::r) l w :=
 fO hS ho hd hg (fun ρ hρ X _=>by
  obtain ⟨sd,hs⟩:=Option.isSome_iff_exists.1 hs
  unfold execOp;rw [hop]
  refine dI _ X ?_
  rw [hρ.dK hx]
  subst h1
  simp [convert,run_underlying hs,run_underlying hu,Conv.intToInt]) h
def Fj (A:Option Addr) (l h c s:Nat):Value:=.slice (if c=l then A else A.map (·.add (l*s))) (h-l) (c-l)
end
end Go.Proofs.YtgcieamfidoaoaaGreatDoor.Pl
namespace Go.Proofs.YtgcieamfidoaoaaGreatDoor.Pl
open Go Go.RowKit
set_option maxRecDepth 100000
theorem Xs.drop {Bs Cs:List Nat} {w w':World} (h:Xs Bs w w') (hs:∀ k∈Bs,k∈Cs∨w.heap.size≤k):Xs Cs w w':=⟨h.os,h.tape,h.output,h.size,fun k hk hn=>h.block k hk fun hb=>by
 rcases hs k hb with h1 | h1
 · exact hn h1
 · omega⟩
theorem Sl.cut {w:World} {lo n c s:Nat} {A:Option Addr} {xs:List Value} (h:Sl w lo (.slice A n c) n xs) (hx:xs.length=n*s) {l k:Nat} (h1:l≤k) (h2:k≤n) :
  Sl w lo (Fj A l k c s) (k-l) ((xs.drop (l*s)).take ((k-l)*s)):=by
 obtain ⟨A',c',he,hn,hc,h4⟩:=h
 cases he
 refine ⟨_,_,rfl,by omega,by omega,fun h0=>?_⟩
 have hlen:((xs.drop (l*s)).take ((k-l)*s)).length≤(k-l)*s:=by rw [List.length_take];exact Nat.min_le_left _ _
 have hkl:l<k:=by
  rcases Nat.lt_or_ge l k with h | h
  · exact h
  · have hz:(k-l)*s=0:=by rw [show k-l=0 by omega,Nat.zero_mul]
    omega
 have hpos:0<xs.length:=by rw [List.length_take,List.length_drop] at h0;omega
 obtain ⟨ad,rfl,hl,hb,hcell⟩:=h4 hpos
 have hne:c≠l:=by omega
 rw [if_neg hne]
 refine ⟨ad.add (l*s),rfl,by rw [Sl.xs.eZ];exact hl,by rw [Sl.xs.eZ];exact hb,fun j u hj=>?_⟩
 have e:(ad.add (l*s)).add j=ad.add (l*s+j):=by
  unfold Addr.add
  by_cases hi:l*s=0<;>by_cases hj:j=0<;>simp [hi,hj,Nat.add_assoc]
 rw [e]
 refine hcell _ u ?_
 rw [List.getElem?_take] at hj
 split at hj
 · rwa [List.getElem?_drop] at hj
 · cases hj
end Go.Proofs.YtgcieamfidoaoaaGreatDoor.Pl
namespace Go.Proofs.YtgcieamfidoaoaaGreatDoor.Pl
open Go Go.RowKit
set_option maxRecDepth 100000
theorem a64 {a b:Nat} {x y:Int} (hx:x=(a:Int)) (hy:y=(b:Int)) (h:a+b≤9223372036854775807):IntKind.i64.wrap (x+y)=((a+b:Nat):Int):=by
 subst hx hy;rw [oC (by omega) (by omega)];omega
end Go.Proofs.YtgcieamfidoaoaaGreatDoor.Pl
namespace Go.Proofs.YtgcieamfidoaoaaGreatDoor.Rf
open Go Go.RowKit Go.Proofs.YtgcieamfidoaoaaGreatDoor.Pl
set_option maxRecDepth 100000
section
variable {P:Program} {Q:Exit→Act→World→Prop} {n:Nat} {ds:List Deferred} {w0:World} {cs:List Code} {l:Fr} {B:Bx} {Γ:Gm}
theorem rz {L:List Oper} {r:nu} {i m d:Nat} {o:Oper} {x y:Operand} {op:BinOp} {tx ty:TypeId} {u u':Value} {p:Prop} {ip:Decidable p} (hr:∀ X,Bn P op tx x y u u' X = .ok (.bool (decide p)) X) (ho:nth L i=some o) (hop:o.op = .binOp op tx x y ty) (hd:o.dst=some d) (hg:jT L l o.guard=some true) (hx:ev l x=some (.v u)) (hy:ev l y=some (.v u'))
  (h1:p→HA P Q n ds w0 cs L r ((d,.v (.bool true))::l) B Γ) (h2:¬ p→HA P Q n ds w0 cs L r ((d,.v (.bool false))::l) B Γ):HA P Q n ds w0 cs L ((false,i,m)::r) l B Γ:=by
 by_cases hp:p
 · exact Cc (fun X=>by rw [hr X,decide_eq_true hp]) ho hop hd hg hx hy (h1 hp)
 · exact Cc (fun X=>by rw [hr X,decide_eq_false hp]) ho hop hd hg hx hy (h2 hp)
end
end Go.Proofs.YtgcieamfidoaoaaGreatDoor.Rf
namespace Go.Proofs.YtgcieamfidoaoaaGreatDoor.Rf
open Go Go.RowKit Go.Proofs.YtgcieamfidoaoaaGreatDoor.Pl
set_option maxRecDepth 100000
section
variable {P:Program} {Q:Exit→Act→World→Prop} {n:Nat} {ds:List Deferred} {w0:World} {cs:List Code} {l0:Fr} {B0:Bx} {Γ0:Gm} {L:List Oper} {ord:Option (List Nat)}
def QS (l:Fr):List Nat→Fr→Fr
 | [],acc=>acc
 | t::ts,acc=>match lk l t with
  | some s=>QS l ts ((t,s)::acc)
  | none=>QS l ts acc
def QT (l:Bx):List Nat→Bx→Bx
 | [],acc=>acc
 | t::ts,acc=>match jU l t with
  | some (u,c)=>QT l ts ((t,u,c)::acc)
  | none=>QT l ts acc
def QU (l:Gm):List Nat→Gm→Gm
 | [],acc=>acc
 | t::ts,acc=>match lW l t with
  | some s=>QU l ts ((t,s)::acc)
  | none=>QU l ts acc
theorem rG {l:Fr}:∀ {ts:List Nat} {acc:Fr},vo acc l→vo (QS l ts acc) l
 | [],_,h=>h
 | t::ts,acc,h=>by
  unfold QS
  cases ht:lk l t with
  | none=>exact rG h
  | some s =>
   refine rG fun q u hq=>?_
   unfold lk at hq
   cases hb:Nat.beq t q with
   | true =>
    rw [hb] at hq
    obtain rfl:=Nat.eq_of_beq_eq_true hb
    obtain rfl:=Option.some.inj hq
    exact ht
   | false=>rw [hb] at hq;exact h q u hq
theorem rH {l:Bx}:∀ {ts:List Nat} {acc:Bx},(∀ b x,jU acc b=some x→jU l b=some x)→∀ b x,jU (QT l ts acc) b=some x→jU l b=some x
 | [],_,h=>h
 | t::ts,acc,h=>by
  unfold QT
  cases ht:jU l t with
  | none=>exact rH h
  | some s =>
   obtain ⟨u,c⟩:=s
   refine rH fun q x hq=>?_
   unfold jU at hq
   cases hb:Nat.beq t q with
   | true =>
    rw [hb] at hq
    obtain rfl:=Nat.eq_of_beq_eq_true hb
    obtain rfl:=Option.some.inj hq
    exact ht
   | false=>rw [hb] at hq;exact h q x hq
theorem rJ {l:Gm}:∀ {ts:List Nat} {acc:Gm},(∀ b x,lW acc b=some x→lW l b=some x)→∀ b x,lW (QU l ts acc) b=some x→lW l b=some x
 | [],_,h=>h
 | t::ts,acc,h=>by
  unfold QU
  cases ht:lW l t with
  | none=>exact rJ h
  | some s =>
   refine rJ fun q x hq=>?_
   unfold lW at hq
   cases hb:Nat.beq t q with
   | true =>
    rw [hb] at hq
    obtain rfl:=Nat.eq_of_beq_eq_true hb
    obtain rfl:=Option.some.inj hq
    exact ht
   | false=>rw [hb] at hq;exact h q x hq
theorem FC {l l':Fr} {B B':Bx} {Γ Γ':Gm} (a b c:List Nat) (e1:QS l a []=l') (e2:QT B b []=B') (e3:QU Γ c []=Γ') (h:HV P Q n ds w0 cs l' B' Γ'):HV P Q n ds w0 cs l B Γ:=fun α γ w hH=>by
 subst e1 e2 e3
 have:=h α γ w (hH.sub (rH (by rintro b x h;cases h)) (rJ (by rintro b x h;cases h)))
 exact Ch ((rG (by rintro b x h;cases h)).look α γ) this
end
end Go.Proofs.YtgcieamfidoaoaaGreatDoor.Rf
namespace Go.Proofs.YtgcieamfidoaoaaGreatDoor
open Go.ChangeShapes Go.WideShapes Go.ChangeAt Go.RowKit
set_option maxRecDepth 100000
theorem laidOut:laidOutB Tryz.prog=true:=by kernel_rfl
abbrev jY:List (String × DataW Unit):=[("ziggurat/ntt.fields",Rows.laid_ziggurat_ntt_fields)]
theorem l5 (os:Os) (args:Array Value):laidMetH Tryz.prog jY ((World.doorLaid Tryz.prog 400 os).forCall (fun _ _=>0) ⟨#[],args,[]⟩).memory :=
 laidMetH_of_parts3 (fuel:=8) (laidMet_of_run' 8 (by kernel_rfl) (by kernel_rfl)) (by kernel_rfl) (by kernel_rfl)
theorem eB {H:Type} {enc:TypeId × Value→H} {W W':World} {sp:Nat→Bool} (hB:Ext W W'):∀ {ts:List TypeId} {vs:List Value} {ds:List (DataW H)} {ps:List MemPlace},
  (∀ t∈ts,Tryz.prog.readableRec t=true∧t<Tryz.prog.types.size)→DataW.TrodAll enc Tryz.prog W 0 (fun _=>true) true ts vs ds ps→(∀ p∈ps,p.block<W.heap.size)→(∀ p∈ps,sp p.block=true)→DataW.TrodAll enc Tryz.prog W' 0 sp true ts vs ds ps
 | [],[],[],_,_,h,_,_=>h
 | t::_,_::_,_::_,_,hT,⟨p,q,h1,h2,e⟩,hlt,hs=>⟨p,q,
  WideElems.Trod_stays laidOut (hT t (List.mem_cons_self ..)).1 (hT t (List.mem_cons_self ..)).2 h1 (fun x hx=>Below.same hB (hlt x (by rw [e];exact List.mem_append_left _ hx))) (fun x hx=>hs x (by rw [e];exact List.mem_append_left _ hx)),
  eB hB (fun t ht=>hT t (List.mem_cons_of_mem _ ht)) h2 (fun x hx=>hlt x (by rw [e];exact List.mem_append_right _ hx)) (fun x hx=>hs x (by rw [e];exact List.mem_append_right _ hx)),e⟩
theorem l6 {H:Type} {enc:TypeId × Value→H} {f:Func} {s:ChangeSpec} {apart fresh handsOn again:Bool} {W W':World} {args:Array Value} {ds gs:List (DataW H)} {before:List MemPlace}
  (hW:DataW.Whole enc Tryz.prog f.params.toList s.vars apart W args.toList ds gs before) (hv:s.vars=[]) (hT:∀ t∈f.params.toList,Tryz.prog.readableRec t=true∧t<Tryz.prog.types.size)
  (hres:f.resultTypes=#[4]) (hfn:(s.fn H (ds++gs)).results=[.lit (.bool true)]) (hfa:(s.fn H (ds++gs)).args=ds) (UD:(s.fn H (ds++gs)).vars=[]) (hB:Ext W W') :
  s.post enc Tryz.prog f apart fresh handsOn again W args (.bool true) W':=by
 have hlt:∀ p∈before,p.block<W.heap.size:=fun p hp=>hW.lt p hp
 have hold:∀ p∈before,(fun b=>decide (b<W.heap.size)) p.block=true:=fun p hp=>by simpa using hlt p hp
 have hres':∀ (b:Nat) (sp:Nat→Bool) (hd:Bool),DataW.TrodAll enc Tryz.prog W' b sp hd f.resultTypes.toList ((Value.bool true).resultList f.resultTypes.size) (s.fn H (ds++gs)).results []:=by
  intro b sp hd
  rw [hres,hfn]
  exact trodAll_mk1 (shut_bool Tryz.underlying4 _)
 have hW2:=hW
 obtain ⟨p,q,hA,hV,hpq,hz,hn⟩:=hW
 rw [hv] at hV
 obtain ⟨_,rfl⟩:=trodVars_none hV
 rw [List.append_nil] at hpq
 subst hpq
 have hargs:∀ sp:Nat→Bool,(∀ p'∈before,sp p'.block=true)→DataW.TrodAll enc Tryz.prog W' 0 sp true f.params.toList args.toList (s.fn H (ds++gs)).args before:=fun sp hs=>by
  rw [hfa];exact eB hB hT hA hlt hs
 have hvars:∀ sp:Nat→Bool,DataW.TrodVars enc Tryz.prog W' sp s.vars (s.fn H (ds++gs)).vars []:=fun sp=>by rw [hv,UD];exact rfl
 refine ⟨ds,gs,before,[],before,[],hW2,hres' _ _ _,hargs _ hold,hvars _,World.keptBut_mono (fun p hp=>⟨hp,?_⟩) (Below.frame hB (·∈before)),fun _=>?_⟩
 · simpa using hp
 · refine ⟨ok_one hres rfl (okWide_bool_mk Tryz.underlying4 _),_,_,([]++before)++[],⟨[]++before,[],trodAll_append (hargs _ (fun _ _=>rfl)) (hres' _ _ _),hvars _,rfl,?_,?_⟩,?_⟩
   · intro b off hp
     have hin:MemPlace.cell b off∈before:=by simpa using hp
     rw [Below.frozen hB (hlt _ hin)]
     exact hz b off hin
   · intro ha
     have:=hn ha
     simpa using this
   · intro p hp _
     simpa using hp
end Go.Proofs.YtgcieamfidoaoaaGreatDoor
namespace Go.Proofs.YtgcieamfidoaoaaGreatDoor
open Go.RowKit
set_option maxRecDepth 100000
def aS (xs:List Nat) (k:Nat):Nat:=val (xs.take k)
theorem l7 (xs:List Nat) (k:Nat) (hx:∀ x∈xs,x<4294967296):(limbs (aS xs k)).length≤k:=by
 apply gH
 have:=mQ (xs.take k) (fun x h=>hx x (List.mem_of_mem_take h))
 refine Nat.lt_of_lt_of_le this (Nat.pow_le_pow_right (by decide) ?_)
 rw [List.length_take];omega
theorem jK (w:World) (v:Value) (xs:List Nat) (k:Int) (hk0:0≤k) (hk1:k≤1000000000) (h:U w v xs) :
  Calls Tryz.prog 65 #[v,.int .i64 k] w fun e w'=>(∃ u,e = .returned u∧Un w' u (aS xs k.toNat))∧Below w.heap.size w w':=by
 have h':=h
 obtain ⟨A,c,rfl,⟨hc,hm⟩,hx,hr⟩:=h
 clear hr
 by_cases hl:(xs.length:Int)≤k
 · have hu:=dZ w _ xs h' (by omega)
   have HT:Hid (xs.take k.toNat=xs):=List.take_of_length_le (by omega)
   have hmin:min (xs.length:Int) k=xs.length:=by omega
   go_enter Tryz.func65,Tryz.ntmps65
   go_wp2_with (go_at_call 100;refine hu.mono ?_;rintro e w' ⟨⟨z,rfl,hz⟩,hB⟩)
   go_ret
   exact ⟨⟨_,rfl,by rw [Un,aS,HT.out];exact hz⟩,hB⟩
 · obtain ⟨k,rfl⟩:=Int.eq_ofNat_of_zero_le hk0
   have hu:=dZ w _ _ (h'.take (k:=k) (c':=c) (by omega) (by omega)) (by rw [List.length_take];omega)
   have hmin:min (xs.length:Int) (k:Int)=k:=by omega
   go_enter Tryz.func65,Tryz.ntmps65
   go_wp2_with (go_at_call 100;refine hu.mono ?_;rintro e w' ⟨⟨z,rfl,hz⟩,hB⟩)
   go_ret
   exact ⟨⟨_,rfl,by rw [Un,aS,Int.toNat_natCast];exact hz⟩,hB⟩
end Go.Proofs.YtgcieamfidoaoaaGreatDoor
namespace Go.Proofs.YtgcieamfidoaoaaGreatDoor
open Go.RowKit
set_option maxRecDepth 100000
theorem iJ (w:World) (v:Value) (xs:List Nat) (k:Int) (h:U w v xs) (hk0:0≤k) (hk1:k≤1000000000) (n:Nat) (hn:aS xs k.toNat=n) :
  Calls Tryz.prog 65 #[v,.int .i64 k] w fun e w'=>∃ u,e = .returned u∧Un w' u n∧Ext w w':=by
 subst hn
 exact (jK w v xs k hk0 hk1 h).mono fun e w' ⟨⟨u,he,hu⟩,hb⟩=>⟨u,he,hu,hb⟩
end Go.Proofs.YtgcieamfidoaoaaGreatDoor
namespace Go.Proofs.YtgcieamfidoaoaaGreatDoor
open Go.RowKit
set_option maxRecDepth 100000
theorem V.drop {g:Nat} {w:World} {ad:Addr} {n c:Nat} {xs:List Nat} (h:V g w (.slice (some ad) n c) xs) {k m c':Nat} (hk:k≤n) (hm:n-k=m) (hc':m≤c'):V g w (.slice (some (ad.add k)) m c') (xs.drop k):=by
 obtain ⟨A,c,hv,hc,hx,hr⟩:=h
 injection hv with h1 h2 h3
 subst h1 h2 h3
 have hlen:(xs.drop k).length=m:=by simp;omega
 refine ⟨_,c',by rw [hlen],by omega,fun x hx'=>hx x (List.mem_of_mem_drop hx'),fun h0=>?_⟩
 obtain ⟨ad',hA,hb,hne,hcell⟩:=hr (by omega)
 injection hA with hA
 subst hA
 refine ⟨_,rfl,by rw [aL];exact hb,by rw [aL];exact hne,fun j hj=>?_⟩
 rw [addr_add_add,hcell (k+j) (by omega),Mv]
end Go.Proofs.YtgcieamfidoaoaaGreatDoor
namespace Go.Proofs.YtgcieamfidoaoaaGreatDoor
open Go.RowKit
set_option maxRecDepth 100000
theorem fH (w:World) (va vb:Value) (gV bs:List Nat) (na nb:Nat) (ha:U w va gV) (hb:U w vb bs) (hna:gV.length=na) (hnb:bs.length=nb) (hn1:na≤1000) (hn2:nb≤1000) :
  Calls Tryz.prog 82 #[va,vb] w fun e w'=>(∃ u,e = .returned u∧Un w' u (val gV*val bs))∧Ext w w':=by
 obtain ⟨A,ca,rfl,⟨hca,hma⟩,hxl,Io⟩:=id ha
 obtain ⟨A2,cb,rfl,⟨hcb,hmb⟩,hyl,Ip⟩:=id hb
 have HL:Hid (gV.length=na∧bs.length=nb):=⟨hna,hnb⟩
 have QJ:=Lib.hid (fun k=>eP bs k)
 have QK:=Lib.hid (fun k=>eP gV k)
 have HT2:Hid (bs.take nb=bs∧gV.take na=gV):=⟨by rw [← hnb];exact List.take_length,by rw [← hna];exact List.take_length⟩
 rw [hna] at hca hma Io ⊢
 rw [hnb] at hcb hmb Ip ⊢
 obtain ⟨n,hnn⟩:∃ n,na+nb=n:=⟨_,rfl⟩
 have hni:(na:Int)+(nb:Int)=(n:Int):=by omega
 obtain ⟨i0,hi,hz0,hz1,hz2⟩:=info_parts oJ
 obtain ⟨B,hB⟩:∃ B,w.heap.size=B:=⟨_,rfl⟩
 have yM:=Lib.hid hB
 clear ha hb hna hnb
 go_enter Tryz.func82,Tryz.ntmps82
 go_wp2_with (at_make;refine wpList_make_full _ rfl _ _ 24 rfl w.heap.size 57 i0 (.int .u32 0) 1 Tryz.underlying24 hi hz0 hz1 _ _ _ _ n rfl rfl (by omega) (by omega) (by rw [hz2];omega) (by unfold maxLen;omega) (Nat.le_refl _) ?_;intro w1 hown hgrow)
 have ho0:Own w1 w.heap.size (.slice (some ⟨w.heap.size,0,none⟩) n n) (List.replicate n 0):=by
  have:=Own.zeros hown
  rwa [List.length_replicate] at this
 have hE0:Ext w w1:=(Ext.refl w).grown hgrow (Nat.le_refl _) (fun _ h=>by cases h)
 rw [hB] at ho0
 clear hown hgrow hi hz0 hz1 hz2 i0
 have hS0:Hid (GZ bs gV n 0 (List.replicate n 0)):=⟨by simp,fun x hx=>by simp at hx;omega,by simp [dM,val],fun m _=>jq _ _⟩
 go_wp2
 go_loopw [6] (fun t wr=>∃ (i:Nat) (o:List Nat),i≤na∧t = .int .i64 (i:Nat)∧Hid (GZ bs gV n i o)∧Own wr B (.slice (some ⟨B,0,none⟩) n n) o∧Ext w wr) (fun t _=>na-(intOf t).toNat)
 case atStart=>exact ⟨0,_,Nat.zero_le _,rfl,hS0,ho0,hE0⟩
 case round =>
  clear hS0 ho0 hE0
  obtain ⟨i,o,hib,rfl,HO,hown,hE⟩:=hrel
  by_cases hlt:i<na
  · obtain ⟨ad,rfl,hb1,hcell1⟩:=Io (by omega)
    have hyb:=dz hxl i
    have hty:=QK.out i (by rw [HL.out.1];exact hlt)
    obtain ⟨y,yL⟩:∃ y,lb gV i=y:=⟨_,rfl⟩
    rw [yL] at hyb hty
    have HY:=Lib.hid yL
    have Iq:Hid (Kg o n i (val o+LB^i*(val (bs.take 0)*y)) 0 o 0):=⟨HO.out.len,HO.out.lt,by decide,by simp [val],fun m _=>rfl⟩
    have sO:Hid (val (gV.take (i+1))=val (gV.take i)+LB^i*y):=hty
    have hno:Hid (lb o (i+nb)=0):=HO.out.out _ (by rw [HL.out.2];exact Nat.le_refl _)
    clear yL hty
    go_wp2
    go_loopw [8,7] (fun t s wx=>∃ (j:Nat) (o2:List Nat) (cy:Nat),j≤nb∧t = .int .i64 (j:Nat)∧s = .int .u64 (cy:Nat)∧Hid (Kg o n i (val o+LB^i*(val (bs.take j)*y)) j o2 cy)∧Own wx B (.slice (some ⟨B,0,none⟩) n n) o2∧Ext w wx) (fun t _ _=>nb-(intOf t).toNat)
    case atStart=>exact ⟨0,o,0,Nat.zero_le _,rfl,rfl,Iq,hown,hE⟩
    case round =>
     clear Iq hown hE
     obtain ⟨j,o2,cy,hj,rfl,rfl,HW,hown,hE⟩:=hrel
     by_cases hjt:j<nb
     · obtain ⟨Ir,rfl,hb2,hcell2⟩:=Ip (by omega)
       have hc0:=(hE.cell (p:=ad.add i) (by rw [aL];exact hb1)).trans (hcell1 i hlt)
       rw [HY.out] at hc0
       have hc1:=(hE.cell (p:=Ir.add j) (by rw [aL];exact hb2)).trans (hcell2 j hjt)
       have hxb:=dz hyl j
       have htk:=QJ.out j (by rw [HL.out.2];exact hjt)
       have hcz:=hown.rd.2 (i+j) (by rw [HW.out.len];omega)
       have hf:=hown.frozen' (i+j)
       have hzb:=dz HW.out.lt (i+j)
       have hcy:=HW.out.Bz
       obtain ⟨x,BG⟩:∃ x,lb bs j=x:=⟨_,rfl⟩
       rw [BG] at hc1 hxb htk
       obtain ⟨z,hzz⟩:∃ z,lb o2 (i+j)=z:=⟨_,rfl⟩
       rw [hzz] at hcz hzb
       obtain ⟨t,ht⟩:∃ t,x*y=t:=⟨_,rfl⟩
       have ht1:t≤18446744065119617025:=by rw [← ht];exact El hxb hyb
       have hti:(y:Int)*(x:Int)=(t:Int):=by rw [← ht,Int.natCast_mul,Int.mul_comm]
       obtain ⟨u,hu⟩:∃ u,cy+(t+z)=u:=⟨_,rfl⟩
       obtain ⟨s,hs⟩:∃ s,u%4294967296=s:=⟨_,rfl⟩
       obtain ⟨d,hd⟩:∃ d,u/4294967296=d:=⟨_,rfl⟩
       obtain ⟨hm,hsb,hdb,hub,htz⟩:=oD t z cy s d u ht1 hzb hcy hu hs hd
       have hst:=HW.out.step (by omega) t s d (by rw [hzz];exact hm) hsb hdb
       rw [Nat.add_assoc (val o),Nat.pow_add,Nat.mul_assoc,← Nat.mul_add,← ht,← Nat.mul_assoc,← Nat.add_mul,← htk] at hst
       have HST:=Lib.hid hst
       have hown2:=hown.set' (i+j) s
       have hE2:=hE.setCell (p:=⟨B,i+j,none⟩) (by rw [yM.out];exact Nat.le_refl _) (.int .u32 (s:Nat))
       have q1:IntKind.u64.wrap (t:Int)=(t:Int):=by rw [IntKind.wrap_u64];omega
       have q2:IntKind.u64.wrap ((t:Int)+(z:Int))=(t:Int)+(z:Int):=by rw [IntKind.wrap_u64];omega
       have q3:(t:Int)+(z:Int)+(cy:Int)=(u:Int):=by omega
       have q4:IntKind.u64.wrap (u:Int)=(u:Int):=by rw [IntKind.wrap_u64];omega
       have q5:IntKind.u32.wrap (u:Int)=(s:Int):=by rw [IntKind.wrap_u32];omega
       have q6:(u:Int)%4294967296=(s:Int):=by omega
       have q7:(u:Int)/4294967296=(d:Int):=by omega
       have q8:IntKind.u64.wrap (x:Int)=(x:Int):=by rw [IntKind.wrap_u64];omega
       have q9:IntKind.u64.wrap (y:Int)=(y:Int):=by rw [IntKind.wrap_u64];omega
       have q10:IntKind.u64.wrap (z:Int)=(z:Int):=by rw [IntKind.wrap_u64];omega
       have q11:(u:Int)%18446744073709551616=(u:Int):=by omega
       have q12:(t:Int)%18446744073709551616=(t:Int):=by omega
       have q13:((t:Int)+(z:Int))%18446744073709551616=(t:Int)+(z:Int):=by omega
       have q14:IntKind.i64.wrap ((i:Int)+(j:Int))=(i:Int)+(j:Int):=IntWalk.i64_in _ (by omega)
       have q15:(0:Int)≤(i:Int)+(j:Int):=by omega
       have q16:(i:Int)+(j:Int)<(n:Int):=by omega
       have q17:((i:Int)+(j:Int)).toNat=i+j:=by omega
       have q18:(0:Int)≤(i:Int):=by omega
       have q19:(i:Int)<(na:Int):=by omega
       have q20:(0:Int)≤(j:Int):=by omega
       have q21:(j:Int)<(nb:Int):=by omega
       clear hst htk BG hzz ht hu hs hd hm HW hxb hzb ht1 hcy hown2 hE2
       have HOWN:=Lib.hid hown
       have UE:=Lib.hid hE
       clear hown hE
       go_wp2_with (fail)
       go_quiet (fail)
       have hown2:=(HOWN.out.ext (iF wr nq)).set' (i+j) s
       have hE2:=(UE.out.below (iF wr nq)).setCell (p:=⟨B,i+j,none⟩) (by rw [yM.out];exact Nat.le_refl _) (.int .u32 (s:Nat))
       go_wp2
       go_roundw
       case rel=>exact ⟨j+1,_,d,by omega,by go_num,rfl,HST,hown2,hE2⟩
       case measure=>simp [intOf];omega
     · obtain rfl:j=nb:=by omega
       have hcz:=hown.rd.2 (i+j) (by rw [HW.out.len];omega)
       have hf:=hown.frozen' (i+j)
       have hl0:lb o2 (i+j)=0:=by rw [HW.out.out _ (Nat.le_refl _)];exact hno.out
       have hws:=oN o2 (i+j) cy (by rw [HW.out.len];omega)
       rw [hl0,Nat.mul_zero,Nat.add_zero,HW.out.val,HT2.out.1] at hws
       have qx:(Value.int .u32 (lb o2 (i+j):Nat)) = .int .u32 0:=by rw [hl0];rfl
       rw [qx] at hcz
       have sP:=HW.out.Bz
       have q5:IntKind.u32.wrap (cy:Int)=(cy:Int):=by rw [IntKind.wrap_u32];omega
       have q6:(cy:Int)%4294967296=(cy:Int):=by omega
       have hown2:=hown.set' (i+j) cy
       have hE2:=hE.setCell (p:=⟨B,i+j,none⟩) (by rw [yM.out];exact Nat.le_refl _) (.int .u32 (cy:Nat))
       have HST:Hid (GZ bs gV n (i+1) (o2.set (i+j) cy)):=by
        refine ⟨by rw [List.length_set];exact HW.out.len,iQ HW.out.lt sP,?_,fun m hm=>?_⟩
        · rw [hws,sO.out,Nat.mul_add,← HO.out.val,Nat.mul_left_comm]
        · rw [HL.out.2] at hm
          rw [dA _ (by omega),HW.out.out _ (by omega)]
          exact HO.out.out m (by rw [HL.out.2];omega)
       have g12:(i:Int)+(j:Int)<(n:Int):=by omega
       have g13:i+j<n:=by omega
       clear hl0 hws qx hown hE HW sP sO hno
       go_wp2
       go_roundw
       case rel=>exact ⟨i+1,_,by omega,by go_num,HST,hown2,hE2⟩
       case measure=>simp [intOf];omega
  · obtain rfl:i=na:=by omega
    have hu:=hown.BJ HO.out.lt (by rw [HO.out.len];omega)
    have hvv:=HO.out.val
    rw [HT2.out.2,Nat.mul_comm] at hvv
    have HV:=Lib.hid hvv
    have hol:=HO.out.len
    clear hown HO hvv
    go_wp2_with (fail)
    refine (dZ _ _ _ hu (by omega)).mono ?_
    rintro e w2 ⟨⟨u,rfl,hu2⟩,hB2⟩
    rw [HV.out] at hu2
    have hE2:=hE.below hB2
    have HF:Hid (∃ u',Ending.returned u = .returned u'∧Un w2 u' (val gV*val bs)):=⟨_,rfl,hu2⟩
    clear hu2 hu hB2
    go_wp2
    go_ret
    exact ⟨HF.out,hE2⟩
end Go.Proofs.YtgcieamfidoaoaaGreatDoor
namespace Go.Proofs.YtgcieamfidoaoaaGreatDoor
open Go.RowKit
set_option maxRecDepth 100000
theorem wF (w:World) (va vb:Value) (n m k:Nat) (ha:Un w va n) (hb:Un w vb m) (hn:(limbs n).length≤398) (hm:(limbs m).length≤398) (hk:n*m=k) :
  Calls Tryz.prog 82 #[va,vb] w fun e w'=>∃ u,e = .returned u∧Un w' u k∧Ext w w':=by
 refine (fH w va vb _ _ _ _ ha hb rfl rfl (by omega) (by omega)).mono ?_
 rw [aJ,aJ,hk]
 rintro e w' ⟨⟨u,h1,h2⟩,h3⟩
 exact ⟨u,h1,h2,h3⟩
end Go.Proofs.YtgcieamfidoaoaaGreatDoor
namespace Go.Proofs.YtgcieamfidoaoaaGreatDoor
open Go.RowKit
set_option maxRecDepth 100000
theorem Ki (w:World) (va vb:Value) (n m k:Nat) (ha:Un w va n) (hb:Un w vb m) (hn:(limbs n).length≤398) (hm:(limbs m).length≤398) (hk:n*m=k) :
  Calls Tryz.prog 35 #[va,vb] w fun e w'=>∃ u,e = .returned u∧Un w' u k∧Ext w w':=by
 have h0:=Lib.hid (wF w va vb n m k ha hb hn hm hk)
 clear ha hb hn hm hk
 go_enter Tryz.func35,Tryz.ntmps35
 go_wp2_with (fail)
 refine h0.out.mono ?_
 rintro e w1 ⟨u,rfl,hu,hB⟩
 have HF:Hid (∃ u',Ending.returned u = .returned u'∧Un w1 u' k∧Ext w w1):=⟨_,rfl,hu,hB⟩
 clear hu hB h0
 go_wp2
 go_ret
 exact HF.out
end Go.Proofs.YtgcieamfidoaoaaGreatDoor
namespace Go.Proofs.YtgcieamfidoaoaaGreatDoor
open Go.RowKit
set_option maxRecDepth 100000
theorem Sz.lit {z:Int} {K:Nat} (h:z.natAbs<4294967296) (hk:1≤K):Sz z K:=Nat.le_trans (kN (k:=1) (by rw [Nat.pow_one];exact h)) hk
end Go.Proofs.YtgcieamfidoaoaaGreatDoor
namespace Go.Proofs.YtgcieamfidoaoaaGreatDoor
open Go.RowKit
set_option maxRecDepth 100000
theorem Sz.cut {w:World} {v:Value} {xs:List Nat} (u:U w v xs) (b:Bool) (k K:Nat) (hk:k≤K):Sz (sg b (aS xs k)) K:=by
 show (limbs (sg b (aS xs k)).natAbs).length≤K
 rw [lZ]
 exact Nat.le_trans (l7 xs k u.lim) hk
end Go.Proofs.YtgcieamfidoaoaaGreatDoor
namespace Go.Proofs.YtgcieamfidoaoaaGreatDoor.Dy
set_option maxRecDepth 100000
def cl (v:Rat):Int := -(-v).floor
def UF (d:Nat) (v:Rat):Int :=
 if d=0 then v.floor else if d=1 then cl v
 else if d=2 then (if v<0 then cl v else v.floor)
 else if d=3 then (if v<0 then v.floor else cl v)
 else if v-v.floor<1/2 then v.floor else if 1/2<v-v.floor then cl v
 else if v.floor%2=0 then v.floor else cl v
def cut (d:Nat) (v:Rat) (n:Int):Rat:=dv (UF d (v*2^n)) (-n)
end Go.Proofs.YtgcieamfidoaoaaGreatDoor.Dy
namespace Go.Proofs.YtgcieamfidoaoaaGreatDoor.Rq
set_option maxRecDepth 100000
theorem Q6 {a b:Rat}:a<b↔a.num*b.den<b.num*a.den:=Rat.lt_iff a b
theorem cmp_eq {a b:Rat}:a=b↔a.num*b.den=b.num*a.den:=Rat.eq_iff_mul_eq_mul
theorem acj (a b:Rat):Rat.divInt (a.num*b.den+b.num*a.den) ((a.den*b.den:Nat):Int)=a+b:=by rw [Rat.divInt_ofNat,Rat.add_def']
theorem YA (a b:Rat):Rat.divInt (a.num*b.num) ((a.den*b.den:Nat):Int)=a*b:=by rw [Rat.divInt_ofNat,Rat.mul_def']
theorem abt (a:Rat):a.floor=a.num/a.den:=by
 unfold Rat.floor
 split
 · rename_i h;rw [h];simp
 · rfl
theorem sign_neg {a:Rat}:a<0↔a.num<0:=by
 rw [Rat.lt_iff]
 show a.num*1<0*_↔_
 omega
theorem sign_zero {a:Rat}:a=0↔a.num=0:=Rat.num_eq_zero.symm
end Go.Proofs.YtgcieamfidoaoaaGreatDoor.Rq
namespace Go.Proofs.YtgcieamfidoaoaaGreatDoor.Rf
open Go Go.RowKit Go.Proofs.YtgcieamfidoaoaaGreatDoor.Pl
set_option maxRecDepth 100000
def IR (p:Int→Prop):RS:=⟨fun w f=>∃ z,f 0 = .int .i64 z∧p z,fun h _ _=>h⟩
section
variable {P:Program} {f:FuncId} {args:Array Value} {w:World} {α:Env} {γ:kR}
theorem YH {p:Int→Prop} (g:Nat) (h:Calls P f args w (fun e w'=>∃ k,e = .returned (.int .i64 k)∧p k∧Ex w w')) :
  Calls P f args w (fun e w'=>∃ F,(∀ k,bG (F k)=true)∧e = .returned (den α (upd γ g F) (.c g 0))∧(IR p).R w' F∧Ex w w'):=Calls.mono h fun e w' ⟨k,he,hp,hE⟩=>by
 subst he
 refine ⟨wo [.int .i64 k],eG rfl,?_,⟨k,rfl,hp⟩,hE⟩
 simp only [den,bZ,upd_same];rfl
end
end Go.Proofs.YtgcieamfidoaoaaGreatDoor.Rf
namespace Go.Proofs.YtgcieamfidoaoaaGreatDoor
open Go.RowKit
set_option maxRecDepth 100000
theorem abu (b:Bool) (n m:Nat):sg b (n+m)=sg b n+sg b m:=by cases b<;>simp [sg]<;>omega
theorem aa5 (b:Bool) (n m:Nat):(if m≤n then sg b (n-m) else sg (!b) (m-n))=sg b n+sg (!b) m:=by
 cases b<;>simp only [sg,Bool.not_false,Bool.not_true,if_true,if_false,Bool.false_eq_true]<;>split<;>omega
end Go.Proofs.YtgcieamfidoaoaaGreatDoor
namespace Go.Proofs.YtgcieamfidoaoaaGreatDoor
open Go.RowKit
set_option maxRecDepth 100000
theorem YK (w:World) (v:Value) (z:Int) (h:Zn w v z) (hl:(limbs z.natAbs).length≤1000000) (k:Int) (hk:Int.sign z=k) :
  Calls Tryz.prog 80 #[v] w fun e w'=>e = .returned (.int .i64 k)∧Ext w w':=by
 have hk2:bN z 0=k:=by
  rw [← hk]
  unfold bN
  rcases Int.lt_trichotomy z 0 with h | h | h
  · rw [if_pos h,Int.sign_eq_neg_one_of_neg h]
  · subst h;rfl
  · rw [if_neg (by omega),if_pos h,Int.sign_eq_one_of_pos h]
 have h':=h
 obtain ⟨p,A,L,c,rfl⟩:=h.sh
 have hE0:=(Ext.refl w).alloc (.cells #[.bool p,.slice A L c] 34)
 have hC:=Lib.hid (Q7 _ _ _ z 0 (h'.below hE0) (Zn.zero _ none 0) hl (by rw [show Int.natAbs 0=0 from rfl,aX];decide) k hk2)
 clear hk hk2 hl h h'
 go_enter Tryz.func80,Tryz.ntmps80
 go_wp2_with (go_at_call 78;refine hC.out.mono ?_;rintro e w2 ⟨rfl,hE2⟩)
 go_ret
 exact ⟨rfl,hE0.below hE2⟩
end Go.Proofs.YtgcieamfidoaoaaGreatDoor
namespace Go.Proofs.YtgcieamfidoaoaaGreatDoor
open Go.RowKit
set_option maxRecDepth 100000
theorem abG (w:World) (p:Bool) (A B:Option Addr) (L K c d n m:Nat) (hu:Un w (.slice A L c) n) (hv:Un w (.slice B K d) m) (hl:(limbs n).length≤1000000) (hl2:(limbs m).length≤1000000) (y:Int) (hy:sg p (n+m)=y) :
  Calls Tryz.prog 108 #[.agg #[.bool p,.slice A L c],.agg #[.bool p,.slice B K d]] w fun e w'=>∃ u,e = .returned u∧Zn w' u y∧Ext w w':=by
 have hE0:=((((Ext.refl w).alloc (.cells #[.bool p,.slice A L c] 34)).alloc (.cells #[.bool p,.slice B K d] 34)).alloc (.cells #[.bool false,.slice none 0 0] 34)).drew
 have hI0:=(Ib.DR w (.cells #[.bool p,.slice A L c] 34) (.cells #[.bool p,.slice B K d] 34) false (.slice none 0 0) 34).ext (Ext.refl _).drew
 have uF:=(Ib.new w p (.slice A L c) 34).ext ((((Ext.refl _).alloc (.cells #[.bool p,.slice B K d] 34)).alloc (.cells #[.bool false,.slice none 0 0] 34)).drew)
 have uO:=(Ib.new2 w (.cells #[.bool p,.slice A L c] 34) p (.slice B K d) 34).ext (((Ext.refl _).alloc (.cells #[.bool false,.slice none 0 0] 34)).drew)
 have hS0:(w.heap.size+1+1<(((w.alloc (.cells #[.bool p,.slice A L c] 34)).alloc (.cells #[.bool p,.slice B K d] 34)).alloc (.cells #[.bool false,.slice none 0 0] 34)).drew.heap.size∧(((w.alloc (.cells #[.bool p,.slice A L c] 34)).alloc (.cells #[.bool p,.slice B K d] 34)).alloc (.cells #[.bool false,.slice none 0 0] 34)).drew.cell? ⟨w.heap.size,0,none⟩=some (.bool p)∧(((w.alloc (.cells #[.bool p,.slice A L c] 34)).alloc (.cells #[.bool p,.slice B K d] 34)).alloc (.cells #[.bool false,.slice none 0 0] 34)).drew.cell? ⟨w.heap.size,1,none⟩=some (.slice A L c)∧(((w.alloc (.cells #[.bool p,.slice A L c] 34)).alloc (.cells #[.bool p,.slice B K d] 34)).alloc (.cells #[.bool false,.slice none 0 0] 34)).drew.cell? ⟨w.heap.size+1,0,none⟩=some (.bool p)∧(((w.alloc (.cells #[.bool p,.slice A L c] 34)).alloc (.cells #[.bool p,.slice B K d] 34)).alloc (.cells #[.bool false,.slice none 0 0] 34)).drew.cell? ⟨w.heap.size+1,1,none⟩=some (.slice B K d))∧Ext w (((w.alloc (.cells #[.bool p,.slice A L c] 34)).alloc (.cells #[.bool p,.slice B K d] 34)).alloc (.cells #[.bool false,.slice none 0 0] 34)).drew:=⟨⟨by simp,uF.2.1,uF.2.2.1,uO.2.1,uO.2.2.1⟩,hE0⟩
 have hu0:=hu.below hE0
 have hv0:=hv.below hE0
 have hsl:(limbs (n+m)).length≤1000000000:=by
  have h1:=dU hl
  have h2:=dU hl2
  refine Nat.le_trans (kN (k:=1000000+1) ?_) (by omega)
  obtain ⟨E,hE⟩:∃ E,1000000=E:=⟨_,rfl⟩
  rw [hE] at h1 h2 ⊢
  rw [Nat.pow_succ]
  have:LB^E*2≤LB^E*LB:=Nat.mul_le_mul_left _ (by unfold LB;decide)
  unfold LB at *
  omega
 have hA:=Lib.hid (fun W h g=>Y7 W (.slice A L c) (.slice B K d) n m h g (by omega) (by omega) _ rfl)
 have hM:=Lib.hid (fun W v (h:Un W v (n+m))=>kG W p v (limbs (n+m)) h hsl _ (aJ _) y hy)
 clear hl hl2 hu hv hy uF uO hsl
 all_goals (
  go_enter Tryz.func108,Tryz.ntmps108
  go_wp2
  go_region_held3 (fun X=>(w.heap.size+1+1<X.heap.size∧X.cell? ⟨w.heap.size,0,none⟩=some (.bool p)∧X.cell? ⟨w.heap.size,1,none⟩=some (.slice A L c)∧X.cell? ⟨w.heap.size+1,0,none⟩=some (.bool p)∧X.cell? ⟨w.heap.size+1,1,none⟩=some (.slice B K d))∧Ext w X)
   (first
    | assumption
    | exact hS0
    | exact Kk (by assumption) (by assumption)
    | exact Kl (by assumption))
   (first
    | (go_at_call 77;((with_reducible refine (hA.out _ hu0 hv0).mono ?_);rintro e w2 ⟨u,rfl,hu2,hE2⟩;obtain ⟨A2,c2,rfl,-⟩:=Un.sh hu2))
    | (go_at_call 55;((with_reducible refine (hM.out _ _ hu2).mono ?_);rintro e w3 ⟨u,rfl,hz3,gF⟩;obtain ⟨b3,A3,L3,c3,rfl⟩:=hz3.sh;have sj:=(hI0.ext hE2).ext gF;obtain ⟨i0,i1,i2,i3,i4⟩:=id sj)))
  clear sj hA hM
  go_wp2
  (try simp only [Exit.inBlock,Exit.then])
  refine bodyPost_ret (v:=.agg #[.bool b3,.slice A3 L3 c3]) (show (results _ _).run _ _=_ from ?_) rfl ⟨_,rfl,hz3.gD ((hI0.ext hE2).ext gF) (bC _ _ _) _ _,((hE0.below hE2).below gF).gD (by omega) _ _⟩
  simp only [results]
  go_simp)
theorem abv (w:World) (p:Bool) (A B:Option Addr) (L K c d n m:Nat) (hu:Un w (.slice A L c) n) (hv:Un w (.slice B K d) m) (hl:(limbs n).length≤1000000) (hl2:(limbs m).length≤1000000) (y:Int) (hy:(if m≤n then sg p (n-m) else sg (!p) (m-n))=y) :
  Calls Tryz.prog 108 #[.agg #[.bool p,.slice A L c],.agg #[.bool (!p),.slice B K d]] w fun e w'=>∃ u,e = .returned u∧Zn w' u y∧Ext w w':=by
 have hE0:=(((Ext.refl w).alloc (.cells #[.bool p,.slice A L c] 34)).alloc (.cells #[.bool (!p),.slice B K d] 34)).alloc (.cells #[.bool false,.slice none 0 0] 34)
 have hI0:=Ib.DR w (.cells #[.bool p,.slice A L c] 34) (.cells #[.bool (!p),.slice B K d] 34) false (.slice none 0 0) 34
 have uF:=(Ib.new w p (.slice A L c) 34).ext (((Ext.refl _).alloc (.cells #[.bool (!p),.slice B K d] 34)).alloc (.cells #[.bool false,.slice none 0 0] 34))
 have uO:=(Ib.new2 w (.cells #[.bool p,.slice A L c] 34) (!p) (.slice B K d) 34).ext ((Ext.refl _).alloc (.cells #[.bool false,.slice none 0 0] 34))
 have hu0:=hu.below hE0
 have hv0:=hv.below hE0
 obtain ⟨d1,hd1⟩:∃ d,n-m=d:=⟨_,rfl⟩
 obtain ⟨d2,hd2⟩:∃ d,m-n=d:=⟨_,rfl⟩
 have hl3:(limbs d1).length≤1000000000:=by have:=jr (show d1≤n by omega);omega
 have hl4:(limbs d2).length≤1000000000:=by have:=jr (show d2≤m by omega);omega
 rw [hd1,hd2] at hy
 by_cases h0:m≤n
 · rw [if_pos h0] at hy
   have hA:=Lib.hid (fun W h g=>QR W (.slice A L c) (.slice B K d) n m h g (by omega) (by omega) true (decide_eq_true h0) d1 hd1)
   have hM:=Lib.hid (fun W v (h:Un W v d1)=>kG W p v (limbs d1) h hl3 _ (aJ _) y hy)
   clear hl hl2 hu hv hy hl3 hl4 hd1 hd2 h0
   cases p
   all_goals (
    go_enter Tryz.func108,Tryz.ntmps108
    go_wp2_with (first
     | (go_at_call 85;refine (hA.out _ hu0 hv0).mono ?_;rintro e w2 ⟨u,rfl,hu2,hE2⟩;obtain ⟨A2,c2,rfl,-⟩:=Un.sh hu2;obtain ⟨p0,p1,p2,p3,p4⟩:=uF.ext hE2;obtain ⟨q0,q1,q2,q3,q4⟩:=uO.ext hE2)
     | (go_at_call 55;refine (hM.out _ _ hu2).mono ?_;rintro e w3 ⟨u,rfl,hz3,gF⟩;obtain ⟨b3,A3,L3,c3,rfl⟩:=hz3.sh;have sj:=(hI0.ext hE2).ext gF;obtain ⟨i0,i1,i2,i3,i4⟩:=id sj))
    (try simp only [Exit.inBlock,Exit.then])
    refine bodyPost_ret (v:=.agg #[.bool b3,.slice A3 L3 c3]) (show (results _ _).run _ _=_ from ?_) rfl ⟨_,rfl,hz3.gD ((hI0.ext hE2).ext gF) (bC _ _ _) _ _,((hE0.below hE2).below gF).gD (by omega) _ _⟩
    simp only [results]
    go_simp)
 · rw [if_neg h0] at hy
   have hA:=Lib.hid (fun W h g=>QR W (.slice A L c) (.slice B K d) n m h g (by omega) (by omega) false (decide_eq_false h0) d1 hd1)
   have hA2:=Lib.hid (fun W h g=>QR W (.slice B K d) (.slice A L c) m n h g (by omega) (by omega) _ rfl d2 hd2)
   have hM:=Lib.hid (fun W v (h:Un W v d2)=>kG W (!p) v (limbs d2) h hl4 _ (aJ _) y hy)
   clear hl hl2 hu hv hy hl3 hl4 hd1 hd2 h0
   cases p
   all_goals (
    go_enter Tryz.func108,Tryz.ntmps108
    go_upto_region 6 with (go_at_call 85;refine (hA.out _ hu0 hv0).mono ?_;rintro e w2 ⟨u,rfl,hu2,hE2⟩;obtain ⟨A2,c2,rfl,-⟩:=Un.sh hu2;obtain ⟨p0,p1,p2,p3,p4⟩:=uF.ext hE2;obtain ⟨q0,q1,q2,q3,q4⟩:=uO.ext hE2)
    go_wp2_with (first
     | (go_at_call 85;refine (hA2.out _ (Un.below hv0 hE2) (Un.below hu0 hE2)).mono ?_;rintro e w4 ⟨u,rfl,DU,kM⟩;obtain ⟨A4,c4,rfl,-⟩:=Un.sh DU;obtain ⟨p0,p1,p2,p3,p4⟩:=(uF.ext hE2).ext kM;obtain ⟨q0,q1,q2,q3,q4⟩:=(uO.ext hE2).ext kM)
     | (go_at_call 55;refine (hM.out _ _ DU).mono ?_;rintro e w3 ⟨u,rfl,hz3,gF⟩;obtain ⟨b3,A3,L3,c3,rfl⟩:=hz3.sh;have sj:=((hI0.ext hE2).ext kM).ext gF;obtain ⟨i0,i1,i2,i3,i4⟩:=id sj))
    (try simp only [Exit.inBlock,Exit.then])
    refine bodyPost_ret (v:=.agg #[.bool b3,.slice A3 L3 c3]) (show (results _ _).run _ _=_ from ?_) rfl ⟨_,rfl,hz3.gD (((hI0.ext hE2).ext kM).ext gF) (bC _ _ _) _ _,(((hE0.below hE2).below kM).below gF).gD (by omega) _ _⟩
    simp only [results]
    go_simp)
theorem acE (w:World) (va vb:Value) (a b:Int) (ha:Zn w va a) (hb:Zn w vb b) (hl:(limbs a.natAbs).length≤1000000) (hl2:(limbs b.natAbs).length≤1000000) (y:Int) (hy:a+b=y) :
  Calls Tryz.prog 108 #[va,vb] w fun e w'=>∃ u,e = .returned u∧Zn w' u y∧Ext w w':=by
 obtain ⟨p,A,L,c,n,rfl,hu,hL,hz,-,hza,hzn⟩:=ha.open
 obtain ⟨q,B,K,d,m,rfl,hv,hK,hz2,-,mF,pJ⟩:=hb.open
 rw [hza] at hl
 rw [mF] at hl2
 rw [hz,hz2] at hy
 by_cases h:q=p
 · subst h
   exact abG w q A B L K c d n m hu hv hl hl2 y ((abu _ _ _).trans hy)
 · obtain rfl:q = !p:=by cases p<;>cases q<;>first | rfl | exact absurd rfl h
   exact abv w p A B L K c d n m hu hv hl hl2 y ((aa5 _ _ _).trans hy)
theorem Ci (w:World) (va vb:Value) (a b:Int) (ha:Zn w va a) (hb:Zn w vb b) (hl:(limbs a.natAbs).length≤398) (hl2:(limbs b.natAbs).length≤398) (y:Int) (hy:a*b=y) :
  Calls Tryz.prog 79 #[va,vb] w fun e w'=>∃ u,e = .returned u∧Zn w' u y∧Ext w w':=by
 obtain ⟨p,A,L,c,n,rfl,hu,hL,hz,-,hza,hzn⟩:=ha.open
 obtain ⟨q,B,K,d,m,rfl,hv,hK,hz2,-,mF,pJ⟩:=hb.open
 rw [hza] at hl
 rw [mF] at hl2
 obtain ⟨k,hk⟩:∃ k,n*m=k:=⟨_,rfl⟩
 have hM:=Lib.hid (fun W h g=>Ki W (.slice A L c) (.slice B K d) n m k h g hl hl2 hk)
 have hkl:(limbs k).length≤1000000000:=by
  have:=wG n m
  rw [hk] at this
  omega
 have WA:=Lib.hid (fun W v (h:Un W v k)=>kG W (!(p==q)) v (limbs k) h hkl k (aJ _) y (by rw [← hk,Kj,← hz,← hz2];exact hy))
 have hE0:=((((Ext.refl w).alloc (.cells #[.bool p,.slice A L c] 34)).alloc (.cells #[.bool q,.slice B K d] 34)).alloc (.cells #[.bool false,.slice none 0 0] 34)).drew
 have hI0:=(Ib.DR w (.cells #[.bool p,.slice A L c] 34) (.cells #[.bool q,.slice B K d] 34) false (.slice none 0 0) 34).ext (Ext.refl _).drew
 have uF:=(Ib.new w p (.slice A L c) 34).ext ((((Ext.refl _).alloc (.cells #[.bool q,.slice B K d] 34)).alloc (.cells #[.bool false,.slice none 0 0] 34)).drew)
 have uO:=(Ib.new2 w (.cells #[.bool p,.slice A L c] 34) q (.slice B K d) 34).ext (((Ext.refl _).alloc (.cells #[.bool false,.slice none 0 0] 34)).drew)
 have hu0:=hu.below hE0
 have hv0:=hv.below hE0
 obtain ⟨p0,p1,p2,p3,p4⟩:=id uF
 obtain ⟨q0,q1,q2,q3,q4⟩:=id uO
 clear hl hl2 hza hzn mF pJ hz hz2 hL hK ha hb hy hk
 go_enter Tryz.func79,Tryz.ntmps79
 have hS0:(w.heap.size+1+1<(((w.alloc (.cells #[.bool p,.slice A L c] 34)).alloc (.cells #[.bool q,.slice B K d] 34)).alloc (.cells #[.bool false,.slice none 0 0] 34)).drew.heap.size∧(((w.alloc (.cells #[.bool p,.slice A L c] 34)).alloc (.cells #[.bool q,.slice B K d] 34)).alloc (.cells #[.bool false,.slice none 0 0] 34)).drew.cell? ⟨w.heap.size,0,none⟩=some (.bool p)∧(((w.alloc (.cells #[.bool p,.slice A L c] 34)).alloc (.cells #[.bool q,.slice B K d] 34)).alloc (.cells #[.bool false,.slice none 0 0] 34)).drew.cell? ⟨w.heap.size,1,none⟩=some (.slice A L c)∧(((w.alloc (.cells #[.bool p,.slice A L c] 34)).alloc (.cells #[.bool q,.slice B K d] 34)).alloc (.cells #[.bool false,.slice none 0 0] 34)).drew.cell? ⟨w.heap.size+1,0,none⟩=some (.bool q)∧(((w.alloc (.cells #[.bool p,.slice A L c] 34)).alloc (.cells #[.bool q,.slice B K d] 34)).alloc (.cells #[.bool false,.slice none 0 0] 34)).drew.cell? ⟨w.heap.size+1,1,none⟩=some (.slice B K d))∧Ext w (((w.alloc (.cells #[.bool p,.slice A L c] 34)).alloc (.cells #[.bool q,.slice B K d] 34)).alloc (.cells #[.bool false,.slice none 0 0] 34)).drew:=⟨⟨by simp,p1,p2,q1,q2⟩,hE0⟩
 clear p0 p1 p2 p3 p4 q0 q1 q2 q3 q4
 go_wp2
 go_region_held3 (fun X=>(w.heap.size+1+1<X.heap.size∧X.cell? ⟨w.heap.size,0,none⟩=some (.bool p)∧X.cell? ⟨w.heap.size,1,none⟩=some (.slice A L c)∧X.cell? ⟨w.heap.size+1,0,none⟩=some (.bool q)∧X.cell? ⟨w.heap.size+1,1,none⟩=some (.slice B K d))∧Ext w X)
  (first
   | exact hS0
   | exact Kk (by assumption) (by assumption)
   | exact Kl (by assumption))
  (first
   | (go_at_call 35;((with_reducible refine (hM.out _ hu0 hv0).mono ?_);rintro e w2 ⟨u,rfl,hu2,hE2⟩;obtain ⟨A2,c2,rfl,hc2⟩:=Un.sh hu2))
   | (go_at_call 55;((with_reducible refine (WA.out _ _ hu2).mono ?_);rintro e w3 ⟨u,rfl,hz3,gF⟩;obtain ⟨b3,A3,L3,c3,rfl⟩:=hz3.sh;have sj:=(hI0.ext hE2).ext gF;obtain ⟨i0,i1,i2,i3,i4⟩:=id sj)))
 clear sj hM WA
 go_wp2
 (try simp only [Exit.inBlock,Exit.then])
 refine bodyPost_ret (v:=.agg #[.bool b3,.slice A3 L3 c3]) (show (results _ _).run _ _=_ from ?_) rfl ⟨_,rfl,hz3.gD ((hI0.ext hE2).ext gF) (bC _ _ _) _ _,((hE0.below hE2).below gF).gD (by omega) _ _⟩
 simp only [results]
 go_simp
end Go.Proofs.YtgcieamfidoaoaaGreatDoor
namespace Go.Proofs.YtgcieamfidoaoaaGreatDoor
open Go.RowKit
set_option maxRecDepth 100000
theorem YL {z k:Int} (h:Int.sign z=k) : -1≤k∧k≤1∧(k=0→z=0)∧(z=0→k=0)∧(0<k→0<z)∧(0<z→0<k)∧(k<0→z<0)∧(z<0→k<0):=by
 subst h
 rcases Int.lt_trichotomy z 0 with h | rfl | h
 · rw [Int.sign_eq_neg_one_of_neg h];omega
 · simp
 · rw [Int.sign_eq_one_of_pos h];omega
theorem YI {a b k:Int} (h:bN a b=k) : -1≤k∧k≤1∧(k=0→a=b)∧(a=b→k=0)∧(0<k→b<a)∧(b<a→0<k)∧(k<0→a<b)∧(a<b→k<0):=by
 subst h
 rcases Int.lt_trichotomy a b with h | rfl | h
 · rw [lV h];omega
 · rw [qQ];omega
 · rw [ni h];omega
end Go.Proofs.YtgcieamfidoaoaaGreatDoor
namespace Go.Proofs.YtgcieamfidoaoaaGreatDoor
open Go.RowKit 
set_option maxRecDepth 100000
def Rsg (x:Rat) (k:Int):Prop := -1≤k∧k≤1∧(k<0↔x<0)∧(k=0↔x=0)∧(0<k↔0<x)
end Go.Proofs.YtgcieamfidoaoaaGreatDoor
namespace Go.Proofs.YtgcieamfidoaoaaGreatDoor.Rf
open Go Go.RowKit Go.Proofs.YtgcieamfidoaoaaGreatDoor.Pl
set_option maxRecDepth 100000
section
variable {P:Program} {Q:Exit→Act→World→Prop} {n:Nat} {ds:List Deferred} {w0:World} {cs:List Code} {l:Fr} {B:Bx} {Γ:Gm} {L:List Oper}
theorem oO {r:nu} {i m d:Nat} {o:Oper} {x:Operand} {s t:TypeId} {kd kd':IntKind} {a:Int} (c:Int) (hu:P.underlying t=some (.int kd')) (hs:(P.underlying s).isSome=true) (h1:kd'.wrap a=c) (ho:nth L i=some o) (hop:o.op = .convert s t x) (hd:o.dst=some d) (hg:jT L l o.guard=some true) (hx:ev l x=some (.v (.int kd a)))
 (h:HA P Q n ds w0 cs L r ((d,.v (.int kd' c))::l) B Γ):HA P Q n ds w0 cs L ((false,i,m)::r) l B Γ:=fun α γ w hH=>xI hu hs h1 trivial ho hop hd (gy hg α γ) (bT hx) (h α γ w hH)
end
section
variable {P:Program} {T:TypeId} {x y:Operand} {w:World} {f:Nat→Value} {p:Int→Prop}
theorem aak (a b:Int) (X:World):Bn P .leq T x y (.int .i64 a) (.int .i64 b) X = .ok (.bool (decide (a≤b))) X:=by
 by_cases h:a≤b
 · rw [decide_eq_true h];exact cO h X
 · rw [decide_eq_false h];exact Ii h X
theorem abp (a b:Int) (X:World):Bn P .geq T x y (.int .i64 a) (.int .i64 b) X = .ok (.bool (decide (a≥b))) X:=by
 by_cases h:a≥b
 · rw [decide_eq_true h];exact bS h X
 · rw [decide_eq_false h];exact gJ h X
theorem l8 (a b:Int) (X:World):Bn P .eql T x y (.int .i64 a) (.int .i64 b) X = .ok (.bool (decide (a=b))) X:=by
 by_cases h:a=b
 · rw [decide_eq_true h];exact aM h X
 · rw [decide_eq_false h];exact aK h X
end
end Go.Proofs.YtgcieamfidoaoaaGreatDoor.Rf
namespace Go.Proofs.YtgcieamfidoaoaaGreatDoor.Rf
open Go Go.RowKit Go.Proofs.YtgcieamfidoaoaaGreatDoor.Pl
set_option maxRecDepth 100000
theorem acJ {P:Program} {f:FuncId} {args:Array Value} {w:World} {α:Env} {γ:kR} {z z':Int} (g:Nat) (h:Calls P f args w fun e w'=>(∃ u v,e = .returned (.tuple #[u,v,.int .i64 0])∧Zn w' u z∧Zn w' v z')∧Ex w w') :
  Calls P f args w (fun e w'=>∃ F,(∀ k,bG (F k)=true)∧e = .returned (den α (upd γ g F) (.t [.a [.c g 0,.c g 1],.a [.c g 2,.c g 3],.v (.int .i64 0)]))∧(Wu z).R w' F∧Ex w w'):=Calls.mono h fun e w' ⟨⟨u,v,he,⟨A,c,hu,hU⟩,⟨A2,c2,hv,hV⟩⟩,hE⟩=>by
 subst hu hv he
 refine ⟨wo [.bool (decide (z<0)),.slice A (limbs z.natAbs).length c,.bool (decide (z'<0)),.slice A2 (limbs z'.natAbs).length c2],eG rfl,?_,⟨A,c,rfl,hU⟩,hE⟩
 simp only [den,bZ,upd_same];rfl
end Go.Proofs.YtgcieamfidoaoaaGreatDoor.Rf
namespace Go.Proofs.YtgcieamfidoaoaaGreatDoor.Rf
open Go Go.RowKit Go.Proofs.YtgcieamfidoaoaaGreatDoor.Pl
set_option maxRecDepth 100000
section
variable {P:Program} {Q:Exit→Act→World→Prop} {n:Nat} {ds:List Deferred} {w0:World} {cs:List Code} {l:Fr} {B:Bx} {Γ:Gm} {L:List Oper}
theorem jZ {r:nu} {i m d:Nat} {o:Oper} {x y:Operand} {op:BinOp} {tx ty:TypeId} {u u':Value} {p:Prop} {ip:Decidable p} (hr:∀ X,Bn P op tx x y u u' X = .ok (.bool (decide p)) X)
  (e:(nth L i,o.op,o.dst,jT L l o.guard,ev l x,ev l y)=(some o,.binOp op tx x y ty,some d,some true,some (.v u),some (.v u')))
  (h1:p→HA P Q n ds w0 cs L r ((d,.v (.bool true))::l) B Γ) (h2:¬ p→HA P Q n ds w0 cs L r ((d,.v (.bool false))::l) B Γ):HA P Q n ds w0 cs L ((false,i,m)::r) l B Γ:=by
 simp only [Prod.mk.injEq] at e
 exact rz hr e.1 e.2.1 e.2.2.1 e.2.2.2.1 e.2.2.2.2.1 e.2.2.2.2.2 h1 h2
variable {ord:Option (List Nat)} {l0:Fr} {B0:Bx} {Γ0:Gm} {tr:Tr}
end
end Go.Proofs.YtgcieamfidoaoaaGreatDoor.Rf
namespace Go.Proofs.YtgcieamfidoaoaaGreatDoor.Fm
open Dy
set_option maxRecDepth 100000
theorem Bl {b:Nat} (s:Rat) (e:Int):0≤rest b s e∧rest b s e<1:=by
 unfold rest dg
 have h1:=MN (s*bp b (-e))
 have h2:=MO (s*bp b (-e))
 generalize (s*bp b (-e)).floor=n at *
 generalize s*bp b (-e)=x at *
 constructor<;>grind
end Go.Proofs.YtgcieamfidoaoaaGreatDoor.Fm
namespace Go.Proofs.YtgcieamfidoaoaaGreatDoor.Fm
open Dy
set_option maxRecDepth 100000
def bP (p q:Rat):Int:=if p<q then -1 else if q<p then 1 else 0
end Go.Proofs.YtgcieamfidoaoaaGreatDoor.Fm
namespace Go.Proofs.YtgcieamfidoaoaaGreatDoor
open Go.RowKit 
set_option maxRecDepth 100000
def Rcm (x y:Rat) (k:Int):Prop := -1≤k∧k≤1∧(k<0↔x<y)∧(k=0↔x=y)∧(0<k↔y<x)
end Go.Proofs.YtgcieamfidoaoaaGreatDoor
namespace Go.Proofs.YtgcieamfidoaoaaGreatDoor
open Go.RowKit 
set_option maxRecDepth 100000
theorem iK (w:World) (vn vd:Value) (n d:Int) (q:Rat) (hn:Zn w vn n) (hd:Zn w vd d) (L M:Nat) (ln:Sz n L) (ld:Sz d M) (hL:L≤100) (hM:M≤100) (hd0:d≠0) (hq:Rat.divInt n d=q) :
  Calls Tryz.prog 66 #[vn,vd] w fun e w'=>∃ u,e = .returned u∧Qn w' u q L M∧Pl.Ex w w':=by
 obtain ⟨An,cn,rfl,un⟩:=hn
 obtain ⟨Ad,cd,rfl,ud⟩:=hd
 refine Pl.dF (n:=14) (vs:=[.agg #[.bool (decide (n<0)),.slice An (limbs (Int.natAbs n)).length cn],.agg #[.bool (decide (d<0)),.slice Ad (limbs (Int.natAbs d)).length cd]]) Tryz.func66 rfl (by kernel_rfl) (by simp) ?_
 refine Pl.aab rfl ?_
 refine Pl.oW (cs:=[.bool (decide (n<0)),.slice An (limbs (Int.natAbs n)).length cn]) rfl rfl rfl rfl rfl rfl (fun Y hY=>trivial) ?_
 intro N1 w1 hE1 vM eX
 have DT:=Pl.Cb.lt eX
 have Tx:=Pl.Ex.size hE1
 refine Pl.oW (cs:=[.bool (decide (d<0)),.slice Ad (limbs (Int.natAbs d)).length cd]) rfl rfl rfl rfl rfl rfl (fun Y hY=>trivial) ?_
 intro N2 w2 hE2 zV eO
 have Iw:=Pl.Cb.lt eO
 have UO:=Pl.Ex.size hE2
 refine Pl.mI (z:=.agg #[.bool false,.slice none 0 0,.slice none 0 0]) (by kernel_rfl) rfl rfl rfl rfl (fun Y hY=>trivial) ?_
 intro N3 w3 gF Iy eF
 have QY:=Pl.Cb.lt eF
 have UQ:=Pl.Ex.size gF
 replace eF:Pl.Cb w3 N3 36 [.bool false,.slice none 0 0,.slice none 0 0]:=eF
 refine Pl.aH ?_
 refine Pl.aab rfl ?_
 refine Pl.jA (part:=[.bool (decide (n<0)),.slice An (limbs (Int.natAbs n)).length cn]) (Pl.Cb.ex eX (Pl.Ex.trans hE2 gF)) rfl Tryz.underlying34 rfl (by kernel_rfl) trivial rfl rfl rfl rfl rfl ?_
 refine Pl.jA (part:=[.bool (decide (d<0)),.slice Ad (limbs (Int.natAbs d)).length cd]) (Pl.Cb.ex eO gF) rfl Tryz.underlying34 rfl (by kernel_rfl) trivial rfl rfl rfl rfl rfl ?_
 refine Pl.bX rfl rfl rfl rfl rfl (Pl.en Tryz.func59) ?_
 refine Calls.mono (kK _ _ _ n d (Zn.of (Un.below un (Pl.Ex.trans hE1 (Pl.Ex.trans hE2 gF)))) (Zn.of (Un.below ud (Pl.Ex.trans hE1 (Pl.Ex.trans hE2 gF)))) L M ln ld hL hM hd0) ?_
 rintro e w4 ⟨vq,rfl,vO,kM⟩
 rw [hq] at vO
 obtain ⟨A1,c1,A2,c2,rfl,u1,u2,z1,z2⟩:=vO
 have WC:=Pl.Ex.size kM
 refine ⟨_,rfl,trivial,?_⟩
 refine Pl.jB trivial rfl ?_
 refine Pl.mI (z:=.agg #[.bool false,.slice none 0 0,.slice none 0 0]) (by kernel_rfl) rfl rfl rfl rfl (fun Y hY=>trivial) ?_
 intro N4 w5 nC QZ jO
 have YC:=Pl.Cb.lt jO
 have Z4:=Pl.Ex.size nC
 replace jO:Pl.Cb w5 N4 36 [.bool false,.slice none 0 0,.slice none 0 0]:=jO
 refine Pl.lI (new:=[.bool (decide ((Rat.num q)<0)),.slice A1 (limbs (Int.natAbs (Rat.num q))).length c1,.slice A2 (limbs (Rat.den q)).length c2]) jO (by kernel_rfl) rfl (by simp [Value.oneCell']) rfl rfl rfl rfl rfl rfl (fun Y hY=>trivial) ?_
 intro w6 zW oZ
 have mG:=Pl.Ex.xs nC zW (by omega)
 have Ty:=Pl.Xs.size zW
 refine Pl.jB trivial rfl ?_
 refine Pl.aH ?_
 refine Pl.aab rfl ?_
 refine Pl.jA (part:=[.bool (decide ((Rat.num q)<0)),.slice A1 (limbs (Int.natAbs (Rat.num q))).length c1,.slice A2 (limbs (Rat.den q)).length c2]) oZ rfl Tryz.underlying36 rfl (by kernel_rfl) trivial rfl rfl rfl rfl rfl ?_
 refine Pl.lI (new:=[.bool (decide ((Rat.num q)<0)),.slice A1 (limbs (Int.natAbs (Rat.num q))).length c1,.slice A2 (limbs (Rat.den q)).length c2]) (Pl.Cb.ex eF (Pl.Ex.trans kM mG)) (by kernel_rfl) rfl (by simp [Value.oneCell']) rfl rfl rfl rfl rfl rfl (fun Y hY=>trivial) ?_
 intro w7 yQ mV
 have pg:=Pl.Ex.xs (Pl.Ex.trans gF (Pl.Ex.trans kM mG)) yQ (by omega)
 have Tz:=Pl.Xs.size yQ
 have Km:=Pl.Cb.xs oZ yQ (by simp;omega)
 refine Pl.aH ?_
 have k5:=Un.xs (Un.below u1 mG) yQ (Pl.Cb.ex eF (Pl.Ex.trans kM mG)) (by simp)
 have k6:=Un.xs (Un.below u2 mG) yQ (Pl.Cb.ex eF (Pl.Ex.trans kM mG)) (by simp)
 repeat refine Pl.aG ?_
 exact Pl.lJ rfl rfl mV Tryz.underlying36 rfl (by kernel_rfl) (⟨_,rfl,(Qn.mk k5 k6 z1 z2),(Pl.Ex.trans hE1 (Pl.Ex.trans hE2 pg))⟩)
end Go.Proofs.YtgcieamfidoaoaaGreatDoor
namespace Go.Proofs.YtgcieamfidoaoaaGreatDoor
open Go.RowKit Rf
set_option maxRecDepth 100000
theorem YJ {p q:Rat} {k:Int} (h:bN (p.num*((q.den:Nat):Int)) (q.num*((p.den:Nat):Int))=k):Rcm p q k:=by
 have h1:=YI h
 have a:=Rq.Q6 (a:=p) (b:=q)
 have b:=Rq.Q6 (a:=q) (b:=p)
 have c:=Rq.cmp_eq (a:=p) (b:=q)
 refine ⟨by omega,by omega,by rw [a];omega,by rw [c];omega,by rw [b];omega⟩
theorem YM {p:Rat} {k:Int} (h:Int.sign p.num=k):Rsg p k:=by
 have h1:=YL h
 have a:=Rq.sign_neg (a:=p)
 have b:=Rq.sign_zero (a:=p)
 refine ⟨by omega,by omega,by rw [a];omega,by rw [b];omega,?_⟩
 rw [← Rat.not_le,Rat.le_iff_lt_or_eq,a,b]
 omega
theorem abN {p:Rat} {L:Nat} (h:Sz p.num L):Sz p.floor L:=by rw [Rq.abt];exact Sz.div h
theorem oq (w:World) (vn:Value) (n:Int) (L:Nat) (hn:Zn w vn n) (ln:Sz n L) :
  Calls Tryz.prog 54 #[vn] w fun e w'=>∃ u,e = .returned u∧Qn w' u ((n:Int):Rat) L 1∧Pl.Ex w w':=by
 obtain ⟨An,cn,rfl,un⟩:=hn
 refine Pl.dF (n:=6) (vs:=[.agg #[.bool (decide (n<0)),.slice An (limbs (Int.natAbs n)).length cn]]) Tryz.func54 rfl (by kernel_rfl) (by simp) ?_
 refine Pl.aab rfl ?_
 refine Pl.oW (cs:=[.bool (decide (n<0)),.slice An (limbs (Int.natAbs n)).length cn]) rfl rfl rfl rfl rfl rfl (fun Y hY=>trivial) ?_
 intro N1 w1 hE1 vM eX
 have DT:=Pl.Cb.lt eX
 have Tx:=Pl.Ex.size hE1
 refine Pl.mI (z:=.agg #[.bool false,.slice none 0 0,.slice none 0 0]) (by kernel_rfl) rfl rfl rfl rfl (fun Y hY=>trivial) ?_
 intro N2 w2 hE2 zV eO
 have Iw:=Pl.Cb.lt eO
 have UO:=Pl.Ex.size hE2
 replace eO:Pl.Cb w2 N2 36 [.bool false,.slice none 0 0,.slice none 0 0]:=eO
 refine Pl.aH ?_
 refine Pl.aab rfl ?_
 refine Pl.jA (part:=[.bool (decide (n<0)),.slice An (limbs (Int.natAbs n)).length cn]) (Pl.Cb.ex eX hE2) rfl Tryz.underlying34 rfl (by kernel_rfl) trivial rfl rfl rfl rfl rfl ?_
 refine Pl.WE (e := 57) (n:=1) [.int .u32 1] rfl rfl rfl rfl (by kernel_rfl) (fun Y hY=>trivial) ?_
 intro N3 w3 gF Iy eF
 have QY:=Pl.Cb.lt eF
 have UQ:=Pl.Ex.size gF
 refine Pl.mo (.agg #[.bool (decide (n<0)),.slice An (limbs (Int.natAbs n)).length cn,.slice (some ⟨N3,0,none⟩) 1 1]) trivial rfl rfl rfl rfl (fun X=>by kernel_rfl) ?_
 refine Pl.lI (new:=[.bool (decide (n<0)),.slice An (limbs (Int.natAbs n)).length cn,.slice (some ⟨N3,0,none⟩) 1 1]) (Pl.Cb.ex eO gF) (by kernel_rfl) rfl (by simp [Value.oneCell']) rfl rfl rfl rfl rfl rfl (fun Y hY=>trivial) ?_
 intro w4 UR Ck
 have kM:=Pl.Ex.xs (Pl.Ex.trans hE2 gF) UR (by omega)
 have WC:=Pl.Xs.size UR
 have mV:=Pl.Cb.xs eF UR (by simp;omega)
 refine Pl.aH ?_
 have hl4:=Un.one (x:=1) mV rfl (by omega)
 repeat refine Pl.aG ?_
 exact Pl.lJ rfl rfl Ck Tryz.underlying36 rfl (by kernel_rfl) (⟨_,rfl,Qn.of (q:=((n:Int):Rat)) rfl rfl (Un.below un (Pl.Ex.trans hE1 kM)) hl4 ln (show Sn 1 1 from Sn.of (by decide)),(Pl.Ex.trans hE1 kM)⟩)
theorem Kr (w:World) (va vb:Value) (p q:Rat) (L M L2 M2:Nat) (ha:Qn w va p L M) (hb:Qn w vb q L2 M2) (hK:L+M2≤398) (hN:L2+M≤398) :
  Calls Tryz.prog 32 #[va,vb] w fun e w'=>∃ k:Int,e = .returned (.int .i64 k)∧Rcm p q k∧Pl.Ex w w':=by
 obtain ⟨Aa,ca,Ba,ba,rfl,ua,ta,za,ya⟩:=ha
 obtain ⟨Ab,cb,Bb,bb,rfl,ub,tb,zb,yb⟩:=hb
 refine Rf.aA (n:=18) [.a [.c 0 0,.c 0 1,.c 0 2],.a [.c 1 0,.c 1 1,.c 1 2]] [[.bool (decide (Rat.num p<0)),.slice Aa (limbs (Rat.num p).natAbs).length ca,.slice Ba (limbs (Rat.den p)).length ba],[.bool (decide (Rat.num q<0)),.slice Ab (limbs (Rat.num q).natAbs).length cb,.slice Bb (limbs (Rat.den q)).length bb]] [(0,(pI p L M).S),(1,(pI q L2 M2).S)] Tryz.func32 rfl (by kernel_rfl) rfl rfl ⟨RS.in ⟨Aa,ca,Ba,ba,rfl,ua,ta,za,ya⟩,RS.in ⟨Ab,cb,Bb,bb,rfl,ub,tb,zb,yb⟩,trivial⟩ ?_
 refine Rf.HX aa 1 0 rfl ?_
 refine Rf.aQ none fo ?_
 refine Rf.aD aa 14 2 rfl ?_
 refine Rf.ak 2 _ _ rfl (Pl.en Tryz.func68) (fun α γ w h=>gz 2 (fA _ _ (Rat.den q) (iW (h.r 1 rfl)).2.2.1)) ?_
 refine Rf.ak 3 _ _ rfl (Pl.en Tryz.func79) (fun α γ w h=>gz 3 (Ci _ _ _ (Rat.num p) (((Rat.den q):Nat):Int) (iW (h.r 0 rfl)).1 (h.r 2 rfl) (Sz.le za (by omega)) (Sz.le (Sn.sz yb) (by omega)) _ rfl)) ?_
 refine Rf.aD aa 14 2 rfl ?_
 refine Rf.ak 4 _ _ rfl (Pl.en Tryz.func68) (fun α γ w h=>gz 4 (fA _ _ (Rat.den p) (iW (h.r 0 rfl)).2.2.1)) ?_
 refine Rf.ak 5 _ _ rfl (Pl.en Tryz.func79) (fun α γ w h=>gz 5 (Ci _ _ _ (Rat.num q) (((Rat.den p):Nat):Int) (iW (h.r 1 rfl)).1 (h.r 4 rfl) (Sz.le zb (by omega)) (Sz.le (Sn.sz ya) (by omega)) _ rfl)) ?_
 refine Rf.ak 6 _ _ rfl (Pl.en Tryz.func78) (fun α γ w h=>YH 6 (Calls.mono (Q7 _ _ _ ((Rat.num p)*(((Rat.den q):Nat):Int)) ((Rat.num q)*(((Rat.den p):Nat):Int)) (h.r 3 rfl) (h.r 5 rfl) (Sz.le (Sz.mul za (Sn.sz yb) (by omega):Sz ((Rat.num p)*(((Rat.den q):Nat):Int)) (L+M2)) (by omega)) (Sz.le (Sz.mul zb (Sn.sz ya) (by omega):Sz ((Rat.num q)*(((Rat.den p):Nat):Int)) (L2+M)) (by omega)) _ rfl) fun e w2 ⟨h1,h2⟩=>⟨_,h1,rfl,h2⟩)) ?_
 refine Rf.aD aa 14 2 rfl ?_
 refine Rf.aW (by kernel_rfl) ?_
 refine Rf.FC [4] [] [6] rfl rfl rfl ?_
 exact Rf.aaa aa rfl (fun α γ w h=>by obtain ⟨k,e9,hk⟩:=h.r 6 rfl;exact ⟨k,congrArg Ending.returned e9,YJ hk,h.ex⟩)
theorem IG (w:World) (va:Value) (p:Rat) (L M:Nat) (ha:Qn w va p L M) (hL:L≤1000000) :
  Calls Tryz.prog 33 #[va] w fun e w'=>∃ k:Int,e = .returned (.int .i64 k)∧Rsg p k∧Pl.Ex w w':=by
 obtain ⟨Aa,ca,Ba,ba,rfl,ua,ta,za,ya⟩:=ha
 refine Rf.aA (n:=6) [.a [.c 0 0,.c 0 1,.c 0 2]] [[.bool (decide (Rat.num p<0)),.slice Aa (limbs (Rat.num p).natAbs).length ca,.slice Ba (limbs (Rat.den p)).length ba]] [(0,(pI p L M).S)] Tryz.func33 rfl (by kernel_rfl) rfl rfl ⟨RS.in ⟨Aa,ca,Ba,ba,rfl,ua,ta,za,ya⟩,trivial⟩ ?_
 refine Rf.bu aa 1 0 rfl ?_
 refine Rf.aC 1 _ _ rfl (Pl.en Tryz.func80) (fun α γ w h=>YH 1 (Calls.mono (YK _ _ (Rat.num p) (iW (h.r 0 rfl)).1 ((Sz.le za (by omega))) _ rfl) fun e w2 ⟨h1,h2⟩=>⟨_,h1,rfl,h2⟩)) ?_
 refine Rf.HY aa 0 1 rfl ?_
 exact Rf.aaa aa rfl (fun α γ w h=>by obtain ⟨k,e9,hk⟩:=h.r 1 rfl;exact ⟨k,congrArg Ending.returned e9,YM hk,h.ex⟩)
theorem jl (w:World) (va:Value) (p:Rat) (L M:Nat) (ha:Qn w va p L M) (hL:L≤1000000) :
  Calls Tryz.prog 38 #[va] w fun e w'=>∃ u,e = .returned u∧Qn w' u (-p) L M∧Pl.Ex w w':=by
 obtain ⟨Aa,ca,Ba,ba,rfl,ua,ta,za,ya⟩:=ha
 refine Pl.dF (n:=9) (vs:=[.agg #[.bool (decide ((Rat.num p)<0)),.slice Aa (limbs (Int.natAbs (Rat.num p))).length ca,.slice Ba (limbs (Rat.den p)).length ba]]) Tryz.func38 rfl (by kernel_rfl) (by simp) ?_
 refine Pl.aab rfl ?_
 refine Pl.oW (cs:=[.bool (decide ((Rat.num p)<0)),.slice Aa (limbs (Int.natAbs (Rat.num p))).length ca,.slice Ba (limbs (Rat.den p)).length ba]) rfl rfl rfl rfl rfl rfl (fun Y hY=>trivial) ?_
 intro N1 w1 hE1 vM eX
 have DT:=Pl.Cb.lt eX
 have Tx:=Pl.Ex.size hE1
 refine Pl.mI (z:=.agg #[.bool false,.slice none 0 0,.slice none 0 0]) (by kernel_rfl) rfl rfl rfl rfl (fun Y hY=>trivial) ?_
 intro N2 w2 hE2 zV eO
 have Iw:=Pl.Cb.lt eO
 have UO:=Pl.Ex.size hE2
 replace eO:Pl.Cb w2 N2 36 [.bool false,.slice none 0 0,.slice none 0 0]:=eO
 refine Pl.aH ?_
 repeat refine Pl.aG ?_
 refine Pl.qc (S:=fun X=>Pl.Ex w1 X) [(true,0,0),(true,1,1),(true,3,3),(true,4,11),(false,2,27),(true,5,31),(false,6,63)] fo Pl.gQ (by kernel_rfl) (Pl.Ex.trans hE2 (Pl.Ex.drew _)) ?_
 have gF:=Pl.Ex.drew w2
 generalize w2.drew=w3 at *
 have UQ:=Pl.Ex.size gF
 intro DV
 refine Pl.mo (.pointer (some ⟨N1,0,none⟩)) DV rfl rfl rfl rfl (fun X=>by kernel_rfl) ?_
 refine Pl.Q8 (part:=[.bool (decide ((Rat.num p)<0)),.slice Aa (limbs (Int.natAbs (Rat.num p))).length ca]) (fun X hX=>Pl.Cb.ex eX hX) rfl Tryz.underlying34 rfl (by kernel_rfl) DV rfl rfl rfl rfl rfl ?_
 refine Pl.mo (.pointer (some ⟨N1,2,none⟩)) DV rfl rfl rfl rfl (fun X=>by kernel_rfl) ?_
 refine Pl.WL (v:=.slice Ba (limbs (Rat.den p)).length ba) Tryz.underlying24 rfl (fun X hX=>Pl.Cb.at (j:=2) (Pl.Cb.ex eX hX) rfl) DV rfl rfl rfl rfl rfl ?_
 refine Pl.bX rfl rfl rfl rfl rfl (Pl.en Tryz.func84) ?_
 refine Calls.mono (WM _ _ (Rat.num p) (Zn.of (Un.below ua (Pl.Ex.trans hE1 (Pl.Ex.trans hE2 gF)))) (Sz.le za (by omega)) _ rfl) ?_
 rintro e w4 ⟨v3,rfl,hv3,kM⟩
 obtain ⟨A4,c5,rfl,u6⟩:=hv3
 have WC:=Pl.Ex.size kM
 have zY:=Pl.Ex.trans DV kM
 refine ⟨_,rfl,zY,?_⟩
 refine Pl.mo (.agg #[.bool (decide ((-(Rat.num p))<0)),.slice A4 (limbs (Int.natAbs (-(Rat.num p)))).length c5,.slice Ba (limbs (Rat.den p)).length ba]) zY rfl rfl rfl rfl (fun X=>by kernel_rfl) ?_
 refine Pl.lI (new:=[.bool (decide ((-(Rat.num p))<0)),.slice A4 (limbs (Int.natAbs (-(Rat.num p)))).length c5,.slice Ba (limbs (Rat.den p)).length ba]) (Pl.Cb.ex eO (Pl.Ex.trans gF kM)) (by kernel_rfl) rfl (by simp [Value.oneCell']) rfl rfl rfl rfl rfl rfl (fun Y hY=>Pl.Ex.xs zY hY (by omega)) ?_
 intro w5 DW Ck
 have nC:=Pl.Ex.xs (Pl.Ex.trans hE2 (Pl.Ex.trans gF kM)) DW (by omega)
 have Z4:=Pl.Xs.size DW
 have hS5:=Pl.Ex.xs zY DW (by omega)
 refine Pl.aH ?_
 have k7:=Un.xs u6 DW (Pl.Cb.ex eO (Pl.Ex.trans gF kM)) (by simp)
 repeat refine Pl.aG ?_
 exact Pl.lJ rfl rfl Ck Tryz.underlying36 rfl (by kernel_rfl) (⟨_,rfl,Qn.of (q := -p) rfl rfl k7 (Un.below ta (Pl.Ex.trans hE1 nC)) (Sz.neg za) ya,(Pl.Ex.trans hE1 nC)⟩)
theorem abH (w:World) (va vb:Value) (p q:Rat) (L M L2 M2:Nat) (ha:Qn w va p L M) (hb:Qn w vb q L2 M2) (K N:Nat) (h1:L+M2+1≤K) (h2:L2+M+1≤K) (h3:M+M2≤N) (hK:K≤100) (hN:N≤100) :
  Calls Tryz.prog 61 #[va,vb] w fun e w'=>∃ u,e = .returned u∧Qn w' u (p+q) K N∧Pl.Ex w w':=by
 obtain ⟨Aa,ca,Ba,ba,rfl,ua,ta,za,ya⟩:=ha
 obtain ⟨Ab,cb,Bb,bb,rfl,ub,tb,zb,yb⟩:=hb
 refine Rf.aA (n:=26) [.a [.c 0 0,.c 0 1,.c 0 2],.a [.c 1 0,.c 1 1,.c 1 2]] [[.bool (decide (Rat.num p<0)),.slice Aa (limbs (Rat.num p).natAbs).length ca,.slice Ba (limbs (Rat.den p)).length ba],[.bool (decide (Rat.num q<0)),.slice Ab (limbs (Rat.num q).natAbs).length cb,.slice Bb (limbs (Rat.den q)).length bb]] [(0,(pI p L M).S),(1,(pI q L2 M2).S)] Tryz.func61 rfl (by kernel_rfl) rfl rfl ⟨RS.in ⟨Aa,ca,Ba,ba,rfl,ua,ta,za,ya⟩,RS.in ⟨Ab,cb,Bb,bb,rfl,ub,tb,zb,yb⟩,trivial⟩ ?_
 refine Rf.HX aa 1 0 rfl ?_
 refine Rf.aQ none fo ?_
 refine Rf.aD aa 22 3 rfl ?_
 refine Rf.ak 2 _ _ rfl (Pl.en Tryz.func68) (fun α γ w h=>gz 2 (fA _ _ (Rat.den q) (iW (h.r 1 rfl)).2.2.1)) ?_
 refine Rf.ak 3 _ _ rfl (Pl.en Tryz.func79) (fun α γ w h=>gz 3 (Ci _ _ _ (Rat.num p) (((Rat.den q):Nat):Int) (iW (h.r 0 rfl)).1 (h.r 2 rfl) (Sz.le za (by omega)) (Sz.le (Sn.sz yb) (by omega)) _ rfl)) ?_
 refine Rf.aD aa 22 3 rfl ?_
 refine Rf.ak 4 _ _ rfl (Pl.en Tryz.func68) (fun α γ w h=>gz 4 (fA _ _ (Rat.den p) (iW (h.r 0 rfl)).2.2.1)) ?_
 refine Rf.ak 5 _ _ rfl (Pl.en Tryz.func79) (fun α γ w h=>gz 5 (Ci _ _ _ (Rat.num q) (((Rat.den p):Nat):Int) (iW (h.r 1 rfl)).1 (h.r 4 rfl) (Sz.le zb (by omega)) (Sz.le (Sn.sz ya) (by omega)) _ rfl)) ?_
 refine Rf.ak 6 _ _ rfl (Pl.en Tryz.func108) (fun α γ w h=>gz 6 (acE _ _ _ ((Rat.num p)*(((Rat.den q):Nat):Int)) ((Rat.num q)*(((Rat.den p):Nat):Int)) (h.r 3 rfl) (h.r 5 rfl) (Sz.le (Sz.mul za (Sn.sz yb) (by omega):Sz ((Rat.num p)*(((Rat.den q):Nat):Int)) (L+M2)) (by omega)) (Sz.le (Sz.mul zb (Sn.sz ya) (by omega):Sz ((Rat.num q)*(((Rat.den p):Nat):Int)) (L2+M)) (by omega)) _ rfl)) ?_
 refine Rf.aD aa 22 3 rfl ?_
 refine Rf.ak 7 _ _ rfl (Pl.en Tryz.func68) (fun α γ w h=>gz 7 (fA _ _ (Rat.den p) (iW (h.r 0 rfl)).2.2.1)) ?_
 refine Rf.aD aa 22 3 rfl ?_
 refine Rf.ak 8 _ _ rfl (Pl.en Tryz.func68) (fun α γ w h=>gz 8 (fA _ _ (Rat.den q) (iW (h.r 1 rfl)).2.2.1)) ?_
 refine Rf.ak 9 _ _ rfl (Pl.en Tryz.func79) (fun α γ w h=>gz 9 (Ci _ _ _ (((Rat.den p):Nat):Int) (((Rat.den q):Nat):Int) (h.r 7 rfl) (h.r 8 rfl) (Sz.le (Sn.sz ya) (by omega)) (Sz.le (Sn.sz yb) (by omega)) _ rfl)) ?_
 refine Rf.ak 10 _ _ rfl (Pl.en Tryz.func66) (fun α γ w h=>iP 10 (iK _ _ _ (((Rat.num p)*(((Rat.den q):Nat):Int))+((Rat.num q)*(((Rat.den p):Nat):Int))) ((((Rat.den p):Nat):Int)*(((Rat.den q):Nat):Int)) (p+q) (h.r 6 rfl) (h.r 9 rfl) (max (L+M2) (L2+M)+1) (M+M2) (Sz.add (Sz.mul za (Sn.sz yb) (by omega):Sz ((Rat.num p)*(((Rat.den q):Nat):Int)) (L+M2)) (Sz.mul zb (Sn.sz ya) (by omega):Sz ((Rat.num q)*(((Rat.den p):Nat):Int)) (L2+M)) (by omega) (by omega):Sz (((Rat.num p)*(((Rat.den q):Nat):Int))+((Rat.num q)*(((Rat.den p):Nat):Int))) (max (L+M2) (L2+M)+1)) (Sz.mul (Sn.sz ya) (Sn.sz yb) (by omega):Sz ((((Rat.den p):Nat):Int)*(((Rat.den q):Nat):Int)) (M+M2)) (by omega) (by omega) (Int.mul_ne_zero (show ((p.den:Nat):Int)≠0 by have:=p.den_pos;omega) (show ((q.den:Nat):Int)≠0 by have:=q.den_pos;omega)) (by rw [← Int.natCast_mul];exact Rq.acj p q))) ?_
 refine Rf.aD aa 22 3 rfl ?_
 refine Rf.aW (by kernel_rfl) ?_
 refine Rf.FC [4] [2] [10] rfl rfl rfl ?_
 exact Rf.aaa aa rfl (fun α γ w h=>⟨_,rfl,(Qn.le (h.r 10 rfl) (by omega) (by omega)),h.ex⟩)
theorem Kn (w:World) (va vb:Value) (p q:Rat) (L M L2 M2:Nat) (ha:Qn w va p L M) (hb:Qn w vb q L2 M2) (K N:Nat) (h1:L+L2≤K) (h3:M+M2≤N) (hK:K≤100) (hN:N≤100) :
  Calls Tryz.prog 98 #[va,vb] w fun e w'=>∃ u,e = .returned u∧Qn w' u (p*q) K N∧Pl.Ex w w':=by
 obtain ⟨Aa,ca,Ba,ba,rfl,ua,ta,za,ya⟩:=ha
 obtain ⟨Ab,cb,Bb,bb,rfl,ub,tb,zb,yb⟩:=hb
 refine Rf.aA (n:=18) [.a [.c 0 0,.c 0 1,.c 0 2],.a [.c 1 0,.c 1 1,.c 1 2]] [[.bool (decide (Rat.num p<0)),.slice Aa (limbs (Rat.num p).natAbs).length ca,.slice Ba (limbs (Rat.den p)).length ba],[.bool (decide (Rat.num q<0)),.slice Ab (limbs (Rat.num q).natAbs).length cb,.slice Bb (limbs (Rat.den q)).length bb]] [(0,(pI p L M).S),(1,(pI q L2 M2).S)] Tryz.func98 rfl (by kernel_rfl) rfl rfl ⟨RS.in ⟨Aa,ca,Ba,ba,rfl,ua,ta,za,ya⟩,RS.in ⟨Ab,cb,Bb,bb,rfl,ub,tb,zb,yb⟩,trivial⟩ ?_
 refine Rf.HX aa 1 0 rfl ?_
 refine Rf.aQ none fo ?_
 refine Rf.aD aa 14 3 rfl ?_
 refine Rf.ak 2 _ _ rfl (Pl.en Tryz.func79) (fun α γ w h=>gz 2 (Ci _ _ _ (Rat.num p) (Rat.num q) (iW (h.r 0 rfl)).1 (iW (h.r 1 rfl)).1 (Sz.le za (by omega)) (Sz.le zb (by omega)) _ rfl)) ?_
 refine Rf.aD aa 14 3 rfl ?_
 refine Rf.ak 3 _ _ rfl (Pl.en Tryz.func68) (fun α γ w h=>gz 3 (fA _ _ (Rat.den p) (iW (h.r 0 rfl)).2.2.1)) ?_
 refine Rf.aD aa 14 3 rfl ?_
 refine Rf.ak 4 _ _ rfl (Pl.en Tryz.func68) (fun α γ w h=>gz 4 (fA _ _ (Rat.den q) (iW (h.r 1 rfl)).2.2.1)) ?_
 refine Rf.ak 5 _ _ rfl (Pl.en Tryz.func79) (fun α γ w h=>gz 5 (Ci _ _ _ (((Rat.den p):Nat):Int) (((Rat.den q):Nat):Int) (h.r 3 rfl) (h.r 4 rfl) (Sz.le (Sn.sz ya) (by omega)) (Sz.le (Sn.sz yb) (by omega)) _ rfl)) ?_
 refine Rf.ak 6 _ _ rfl (Pl.en Tryz.func66) (fun α γ w h=>iP 6 (iK _ _ _ ((Rat.num p)*(Rat.num q)) ((((Rat.den p):Nat):Int)*(((Rat.den q):Nat):Int)) (p*q) (h.r 2 rfl) (h.r 5 rfl) (L+L2) (M+M2) (Sz.mul za zb (by omega):Sz ((Rat.num p)*(Rat.num q)) (L+L2)) (Sz.mul (Sn.sz ya) (Sn.sz yb) (by omega):Sz ((((Rat.den p):Nat):Int)*(((Rat.den q):Nat):Int)) (M+M2)) (by omega) (by omega) (Int.mul_ne_zero (show ((p.den:Nat):Int)≠0 by have:=p.den_pos;omega) (show ((q.den:Nat):Int)≠0 by have:=q.den_pos;omega)) (by rw [← Int.natCast_mul];exact Rq.YA p q))) ?_
 refine Rf.aD aa 14 3 rfl ?_
 refine Rf.aW (by kernel_rfl) ?_
 refine Rf.FC [4] [2] [6] rfl rfl rfl ?_
 exact Rf.aaa aa rfl (fun α γ w h=>⟨_,rfl,(Qn.le (h.r 6 rfl) (by omega) (by omega)),h.ex⟩)
theorem abI (w:World) (va vb:Value) (p q:Rat) (L M L2 M2:Nat) (ha:Qn w va p L M) (hb:Qn w vb q L2 M2) (K N:Nat) (h1:L+M2+1≤K) (h2:L2+M+1≤K) (h3:M+M2≤N) (hK:K≤100) (hN:N≤100) :
  Calls Tryz.prog 81 #[va,vb] w fun e w'=>∃ u,e = .returned u∧Qn w' u (p-q) K N∧Pl.Ex w w':=by
 obtain ⟨Aa,ca,Ba,ba,rfl,ua,ta,za,ya⟩:=ha
 obtain ⟨Ab,cb,Bb,bb,rfl,ub,tb,zb,yb⟩:=hb
 refine Rf.aA (n:=9) [.a [.c 0 0,.c 0 1,.c 0 2],.a [.c 1 0,.c 1 1,.c 1 2]] [[.bool (decide (Rat.num p<0)),.slice Aa (limbs (Rat.num p).natAbs).length ca,.slice Ba (limbs (Rat.den p)).length ba],[.bool (decide (Rat.num q<0)),.slice Ab (limbs (Rat.num q).natAbs).length cb,.slice Bb (limbs (Rat.den q)).length bb]] [(0,(pI p L M).S),(1,(pI q L2 M2).S)] Tryz.func81 rfl (by kernel_rfl) rfl rfl ⟨RS.in ⟨Aa,ca,Ba,ba,rfl,ua,ta,za,ya⟩,RS.in ⟨Ab,cb,Bb,bb,rfl,ub,tb,zb,yb⟩,trivial⟩ ?_
 refine Rf.HX aa 1 0 rfl ?_
 refine Rf.aQ none fo ?_
 refine Rf.aD aa 5 3 rfl ?_
 refine Rf.ak 2 _ _ rfl (Pl.en Tryz.func38) (fun α γ w h=>iP 2 (jl _ _ q L2 M2 (h.r 1 rfl) (by omega))) ?_
 refine Rf.ak 3 _ _ rfl (Pl.en Tryz.func61) (fun α γ w h=>iP 3 (abH _ _ _ p (-q) L M L2 M2 (h.r 0 rfl) (h.r 2 rfl) (max (L+M2) (L2+M)+1) (M+M2) (by omega) (by omega) (by omega) (by omega) (by omega))) ?_
 refine Rf.aD aa 5 3 rfl ?_
 refine Rf.aW (by kernel_rfl) ?_
 refine Rf.FC [4] [2] [3] rfl rfl rfl ?_
 exact Rf.aaa aa rfl (fun α γ w h=>⟨_,rfl,by rw [Rat.sub_eq_add_neg];exact (Qn.le (h.r 3 rfl) (by omega) (by omega)),h.ex⟩)
theorem abq (w:World) (va:Value) (p:Rat) (L M:Nat) (ha:Qn w va p L M) (hL:L≤200) (hM:M≤200) :
  Calls Tryz.prog 127 #[va] w fun e w'=>∃ u,e = .returned u∧Zn w' u p.floor∧Pl.Ex w w':=by
 obtain ⟨Aa,ca,Ba,ba,rfl,ua,ta,za,ya⟩:=ha
 refine Rf.aA (n:=17) [.a [.c 0 0,.c 0 1,.c 0 2]] [[.bool (decide (Rat.num p<0)),.slice Aa (limbs (Rat.num p).natAbs).length ca,.slice Ba (limbs (Rat.den p)).length ba]] [(0,(pI p L M).S)] Tryz.func127 rfl (by kernel_rfl) rfl rfl ⟨RS.in ⟨Aa,ca,Ba,ba,rfl,ua,ta,za,ya⟩,trivial⟩ ?_
 refine Rf.HX aa 1 0 rfl ?_
 refine Rf.aQ none fo ?_
 refine Rf.aD aa 15 2 rfl ?_
 refine Rf.ak 1 _ _ rfl (Pl.en Tryz.func68) (fun α γ w h=>gz 1 (fA _ _ (Rat.den p) (iW (h.r 0 rfl)).2.2.1)) ?_
 refine Rf.ak 2 (Wu ((Rat.num p)/(((Rat.den p):Nat):Int))) (.t [.a [.c 2 0,.c 2 1],.a [.c 2 2,.c 2 3],vI 0]) rfl (Pl.en Tryz.func141) (fun α γ w h=>acJ 2 (Vj _ _ _ (Rat.num p) (((Rat.den p):Nat):Int) (iW (h.r 0 rfl)).1 (h.r 1 rfl) (Sz.le za (by omega)) (Sz.le (Sn.sz ya) (by omega)) (show ((p.den:Nat):Int)≠0 by have:=p.den_pos;omega) _ _ rfl rfl)) ?_
 refine Rf.aD aa 15 2 rfl ?_
 refine Rf.aW (by kernel_rfl) ?_
 refine Rf.FC [2,3] [1,2] [2] rfl rfl rfl ?_
 refine Rf.HX aa 1 4 rfl ?_
 exact Rf.aaa aa rfl (fun α γ w h=>⟨_,rfl,by rw [Rq.abt];exact h.r 2 rfl,h.ex⟩)
end Go.Proofs.YtgcieamfidoaoaaGreatDoor
namespace Go.Proofs.YtgcieamfidoaoaaGreatDoor
open Go.RowKit
set_option maxRecDepth 100000
theorem mg (w:World) (va vb:Value) (n m k K:Nat) (hK:K≤1000) (ha:Un w va n) (hb:Un w vb m) (hn:(limbs n).length≤K) (hm:(limbs m).length≤K) (hk:n*m=k) :
  Calls Tryz.prog 82 #[va,vb] w fun e w'=>∃ u,e = .returned u∧Un w' u k∧Ext w w':=by
 refine (fH w va vb _ _ _ _ ha hb rfl rfl (by omega) (by omega)).mono ?_
 rw [aJ,aJ,hk]
 rintro e w' ⟨⟨u,h1,h2⟩,h3⟩
 exact ⟨u,h1,h2,h3⟩
theorem xL (K:Nat) (hK:K≤1000) (w:World) (va:Value) (a n:Nat) (hu:Un w va a) (h1:1≤a) (hal:(limbs a).length≤K) (hlim:(limbs (a^n)).length≤K) (hn:n≤100000) (k:Nat) (hk:a^n=k) :
  Calls Tryz.prog 83 #[va,.int .i64 (n:Nat)] w fun e w'=>∃ u,e = .returned u∧Un w' u k∧Ext w w':=by
 subst hk
 have QE:Hid (∀ x,x=a→(limbs x).length≤K):=fun x e=>by rw [e];exact hal
 have NY:Hid (∀ e,e≤n→(limbs (a^e)).length≤K):=fun e he=>Sn.down (n:=a^n) (K:=K) hlim (Nat.pow_le_pow_right h1 he)
 have HS:=Lib.hid (fun W va vb n m k=>mg W va vb n m k K hK)
 clear hlim h1 hK
 obtain ⟨A,ca,rfl,hca⟩:=U.shape (U.dX hu)
 have hE0:=(Ext.refl w).alloc (.cells #[.int .u32 1] 57)
 have hone:Un (w.alloc (.cells #[.int .u32 1] 57)) (.slice (some ⟨w.heap.size,0,none⟩) 1 1) 1:=uI w _ rfl 1 (by decide) (by decide)
 have hu1:Un (w.alloc (.cells #[.int .u32 1] 57)) (.slice A (limbs a).length ca) a:=U.below (U.dX hu) hE0
 clear hal
 generalize (limbs a).length=la at *
 clear hu
 go_enter Tryz.func83,Tryz.ntmps83
 go_wp2
 go_loopw [6,5] (fun t s wr=>∃ (j:Nat),j≤n∧t = .int .i64 (j:Nat)∧Un wr s (a^j)∧Un wr (.slice A la ca) a∧Ext w wr) (fun t _ _=>n-(intOf t).toNat)
 case atStart=>exact ⟨0,Nat.zero_le _,rfl,by rw [Nat.pow_zero];exact hone,hu1,hE0⟩
 case round =>
  clear hone hu1 hE0
  obtain ⟨j,hj,rfl,hz,uL,hE⟩:=hrel
  obtain ⟨A2,c2,rfl,hcc⟩:=U.shape (U.dX hz)
  by_cases hlt:j<n
  · have hM:=Lib.hid (HS.out wr _ _ (a^j) a (a^(j+1)) hz uL (NY.out j hj) (QE.out a rfl) (Nat.pow_succ a j).symm)
    generalize (limbs (a^j)).length=lz at *
    clear hz
    go_wp2_with (fail)
    refine hM.out.mono ?_
    rintro e w2 ⟨u,rfl,hu2,hB⟩
    replace uL:=U.below (U.dX uL) hB
    replace hE:=hE.below hB
    clear hM hB
    go_wp2
    go_roundw
    case rel=>exact ⟨j+1,by omega,by go_num,hu2,uL,hE⟩
    case measure=>simp [intOf];omega
  · obtain rfl:j=n:=by omega
    have HF:Hid (∃ u',Ending.returned (.slice A2 (limbs (a^j)).length c2) = .returned u'∧Un wr u' (a^j)∧Ext w wr):=⟨_,rfl,hz,hE⟩
    clear hz hE
    go_wp2
    go_ret
    exact HF.out
end Go.Proofs.YtgcieamfidoaoaaGreatDoor
namespace Go.Proofs.YtgcieamfidoaoaaGreatDoor
open Go.RowKit Rf Fm
set_option maxRecDepth 100000
theorem Cq {p q:Rat} {k:Int} (h:Rcm p q k):k=bP p q:=by
 obtain ⟨h1,h2,h3,h4,h5⟩:=h
 unfold bP
 by_cases a:p<q
 · rw [if_pos a];have:=h3.2 a;omega
 · rw [if_neg a]
   by_cases b:q<p
   · rw [if_pos b];have:=h5.2 b;omega
   · rw [if_neg b];exact h4.2 (by grind)
theorem Q9 {q:Rat} {k:Int} (h:Rsg q k):k=bP q 0:=Cq (p:=q) (q:=0) h
theorem Me {p q:Rat}:bP p q≥0↔q≤p:=by unfold bP;split<;>(try split)<;>grind
theorem Ce {p q:Rat}:bP p q>0↔q<p:=by unfold bP;split<;>(try split)<;>grind
theorem QO {p q:Rat}:bP p q<0↔p<q:=by unfold bP;split<;>(try split)<;>grind
theorem tK {p q:Rat}:bP p q=0↔p=q:=by unfold bP;split<;>(try split)<;>grind
theorem IA (w:World) (va vb:Value) (p q:Rat) (L M L2 M2:Nat) (ha:Qn w va p L M) (hb:Qn w vb q L2 M2) (hK:L+M2≤398) (hN:L2+M≤398) :
  Calls Tryz.prog 32 #[va,vb] w fun e w'=>e = .returned (.int .i64 (bP p q))∧Pl.Ex w w' :=
 (Kr w va vb p q L M L2 M2 ha hb hK hN).mono fun e w' ⟨k,h1,h2,h3⟩=>⟨by rw [h1,Cq h2],h3⟩
theorem iw (w:World) (va:Value) (p:Rat) (L M:Nat) (ha:Qn w va p L M) (hL:L≤1000000) :
  Calls Tryz.prog 33 #[va] w fun e w'=>e = .returned (.int .i64 (bP p 0))∧Pl.Ex w w' :=
 (IG w va p L M ha hL).mono fun e w' ⟨k,h1,h2,h3⟩=>⟨by rw [h1,Q9 h2],h3⟩
theorem YD (p q:Rat):Rat.divInt (p.num*((q.den:Nat):Int)) (q.num*((p.den:Nat):Int))=p/q:=by
 rw [Rat.div_def]
 conv=>rhs;rw [← Rat.num_divInt_den p,← Rat.num_divInt_den q,Rat.inv_divInt,Rat.divInt_mul_divInt,Int.mul_comm ((p.den:Nat):Int)]
theorem nM {n:Nat} {neg:Bool} {K:Nat} (h:Sn n K):Sz (sg neg n) K:=by show (limbs (sg neg n).natAbs).length≤K;rw [lZ];exact h
theorem xM {b:Nat} (hb:b=2∨b=10):Sn b 1:=Sn.of (by rcases hb with h | h<;>rw [h]<;>decide)
theorem Ko (b k:Nat):((((b^k:Nat):Int)):Rat)=bp b (k:Int):=(ry b k).symm
theorem UT {b:Nat} (hb:2≤b) (q:Rat) (k:Nat):q/(((b^k:Nat):Int):Rat)=q*bp b (-(k:Int)):=by
 have h:=y5 hb (k:Int)
 have hn:=Md hb (k:Int)
 rw [Ko,Rat.div_def]
 congr 1
 rw [← Rat.mul_one (bp b (k:Int))⁻¹,← h,← Rat.mul_assoc,Rat.inv_mul_cancel _ hn,Rat.one_mul]
theorem YE {b:Nat} (hb:2≤b) (k:Nat):((((b^k:Nat):Int)):Rat)≠0:=by rw [Ko];exact Md hb _
theorem Iz (w:World) (va vb:Value) (p q:Rat) (L M L2 M2:Nat) (ha:Qn w va p L M) (hb:Qn w vb q L2 M2) (K N:Nat) (h1:L+M2≤K) (h2:L2+M≤N) (hK:K≤100) (hN:N≤100) (hq0:q≠0) :
  Calls Tryz.prog 99 #[va,vb] w fun e w'=>∃ u,e = .returned (.tuple #[u,.int .i64 0])∧Qn w' u (p/q) K N∧Pl.Ex w w':=by
 obtain ⟨Aa,ca,Ba,ba,rfl,ua,ta,za,ya⟩:=ha
 obtain ⟨Ab,cb,Bb,bb,rfl,ub,tb,zb,yb⟩:=hb
 have hdp:=p.den_pos
 have hqn:q.num≠0:=fun h=>hq0 (Rat.num_eq_zero.1 h)
 refine Rf.aA (n:=26) [.a [.c 0 0,.c 0 1,.c 0 2],.a [.c 1 0,.c 1 1,.c 1 2]] [[.bool (decide (Rat.num p<0)),.slice Aa (limbs (Rat.num p).natAbs).length ca,.slice Ba (limbs (Rat.den p)).length ba],[.bool (decide (Rat.num q<0)),.slice Ab (limbs (Rat.num q).natAbs).length cb,.slice Bb (limbs (Rat.den q)).length bb]] [(0,(pI p L M).S),(1,(pI q L2 M2).S)] Tryz.func99 rfl (by kernel_rfl) rfl rfl ⟨RS.in ⟨Aa,ca,Ba,ba,rfl,ua,ta,za,ya⟩,RS.in ⟨Ab,cb,Bb,bb,rfl,ub,tb,zb,yb⟩,trivial⟩ ?_
 refine Rf.HX aa 1 0 rfl ?_
 refine Rf.aQ none fo ?_
 refine Rf.aD aa 19 3 rfl ?_
 refine Rf.ak 2 _ _ rfl (Pl.en Tryz.func68) (fun α γ w h=>gz 2 (fA _ _ (Rat.den q) (iW (h.r 1 rfl)).2.2.1)) ?_
 refine Rf.ak 3 _ _ rfl (Pl.en Tryz.func79) (fun α γ w h=>gz 3 (Ci _ _ _ (Rat.num p) (((Rat.den q):Nat):Int) (iW (h.r 0 rfl)).1 (h.r 2 rfl) (Sz.le za (by omega)) (Sz.le (Sn.sz yb) (by omega)) _ rfl)) ?_
 refine Rf.aD aa 19 3 rfl ?_
 refine Rf.ak 4 _ _ rfl (Pl.en Tryz.func68) (fun α γ w h=>gz 4 (fA _ _ (Rat.den p) (iW (h.r 0 rfl)).2.2.1)) ?_
 refine Rf.ak 5 _ _ rfl (Pl.en Tryz.func79) (fun α γ w h=>gz 5 (Ci _ _ _ (Rat.num q) (((Rat.den p):Nat):Int) (iW (h.r 1 rfl)).1 (h.r 4 rfl) (Sz.le zb (by omega)) (Sz.le (Sn.sz ya) (by omega)) _ rfl)) ?_
 refine Rf.ak 6 (pI (Rat.divInt ((Rat.num p)*(((Rat.den q):Nat):Int)) ((Rat.num q)*(((Rat.den p):Nat):Int))) (L+M2) (L2+M)) (.t [.a [.c 6 0,.c 6 1,.c 6 2],vI 0]) rfl (Pl.en Tryz.func59) (fun α γ w h=>nJ 6 (kK _ _ _ ((Rat.num p)*(((Rat.den q):Nat):Int)) ((Rat.num q)*(((Rat.den p):Nat):Int)) (h.r 3 rfl) (h.r 5 rfl) (L+M2) (L2+M) (Sz.mul za (Sn.sz yb) (by omega):Sz ((Rat.num p)*(((Rat.den q):Nat):Int)) (L+M2)) (Sz.mul zb (Sn.sz ya) (by omega):Sz ((Rat.num q)*(((Rat.den p):Nat):Int)) (L2+M)) (by omega) (by omega) (Int.mul_ne_zero hqn (by omega)))) ?_
 refine Rf.aD aa 19 3 rfl ?_
 refine Rf.aW (by kernel_rfl) ?_
 refine Rf.aP [4,5,6,7] [2,3] [6] rfl ?_
 refine Rf.HX aa 1 4 rfl ?_
 exact Rf.aaa aa rfl (fun α γ w h=>⟨_,rfl,by rw [← YD];exact Qn.le (h.r 6 rfl) (by omega) (by omega),h.ex⟩)
theorem bg (w:World) (b p k:Nat) (lo hi z:Int) (hb:b=2∨b=10) (hz:z=((k:Nat):Int)) (hk:k≤303) :
  Calls Tryz.prog 36 #[.agg #[.int .i64 ((b:Nat):Int),.int .i64 ((p:Nat):Int),.int .i64 lo,.int .i64 hi],.int .i64 z] w fun e w'=>∃ u,e = .returned u∧Un w' u (b^k)∧Pl.Ex w w':=by
 have hb2:2≤b∧b≤10:=by omega
 have hpk:b^k=b^k:=rfl
 subst hz
 refine Rf.aA (n:=11) [.a [vI ((b:Nat):Int),vI ((p:Nat):Int),vI lo,vI hi],vI ((k:Nat):Int)] [] [] Tryz.func36 rfl (by kernel_rfl) rfl rfl trivial ?_
 refine Rf.bu aa 1 0 rfl ?_
 refine Rf.oO ((b:Nat):Int) Tryz.underlying57 (by kernel_rfl) (Pl.w32 (by omega) (by omega)) rfl rfl rfl rfl rfl ?_
 refine Rf.mH (e := 57) (m:=1) [.int .u32 ((b:Nat):Int)] 0 (dW b) rfl rfl rfl (fun _ _=>rfl) (fun α γ X=>by kernel_rfl) rfl (fun N w k=>Un.one (x:=b) k rfl (by omega)) ?_
 refine Rf.ay aa 1 rfl ?_
 refine Rf.aC 1 _ _ rfl (Pl.en Tryz.func83) (fun α γ w h=>dO 1 (xL 78 (by decide) _ _ b k (h.r 0 rfl) (by omega) (Nat.le_trans (xM hb) (by decide)) (Nat.le_trans (bK hb (by omega):Sn (b^k) 38) (by decide)) (by omega) _ rfl)) ?_
 refine Rf.HY aa 0 1 rfl ?_
 exact Rf.aaa aa rfl (fun α γ w h=>⟨_,rfl,h.r 1 rfl,h.ex⟩)
theorem oU (w:World) (p:Nat) (lo hi:Int) (hf:fT 2 p lo hi) :
  Calls Tryz.prog 14 #[.agg #[.int .i64 2,.int .i64 ((p:Nat):Int),.int .i64 lo,.int .i64 hi]] w fun e w'=>e = .returned (.bool true)∧Pl.Ex w w':=by
 have f1:=hf.p1
 have f2:=hf.ku
 have f3:=hf.l
 have f4:=hf.l1
 have f5:=hf.h1
 refine Rf.aA (n:=38) [.a [vI 2,vI ((p:Nat):Int),vI lo,vI hi]] [] [] Tryz.func14 rfl (by kernel_rfl) rfl rfl trivial ?_
 refine Rf.bu aa 1 0 rfl ?_
 refine Rf.ah (v:=.bool true) (fun X=>aM (by decide) X) rfl ?_
 refine Rf.ay aa 1 rfl ?_
 refine Rf.ah (v:=.bool true) (fun X=>bS (by omega) X) rfl ?_
 refine Rf.ay aa 1 rfl ?_
 refine Rf.ah (v:=.bool true) (fun X=>cO (by omega) X) rfl ?_
 refine Rf.ay aa 1 rfl ?_
 refine Rf.ah (v:=.bool true) (fun X=>cO (by omega) X) rfl ?_
 refine Rf.ay aa 1 rfl ?_
 refine Rf.ah (v:=.bool true) (fun X=>bS (by omega) X) rfl ?_
 refine Rf.ay aa 1 rfl ?_
 refine Rf.ah (v:=.bool true) (fun X=>cO (by omega) X) rfl ?_
 refine Rf.HY aa 0 1 rfl ?_
 exact Rf.aaa aa rfl (fun α γ w h=>⟨rfl,h.ex⟩)
theorem mR (w:World) (p:Nat) (lo hi:Int) (hf:fT 10 p lo hi) :
  Calls Tryz.prog 14 #[.agg #[.int .i64 10,.int .i64 ((p:Nat):Int),.int .i64 lo,.int .i64 hi]] w fun e w'=>e = .returned (.bool true)∧Pl.Ex w w':=by
 have f1:=hf.p1
 have f2:=hf.ku
 have f3:=hf.l
 have f4:=hf.l1
 have f5:=hf.h1
 refine Rf.aA (n:=38) [.a [vI 10,vI ((p:Nat):Int),vI lo,vI hi]] [] [] Tryz.func14 rfl (by kernel_rfl) rfl rfl trivial ?_
 refine Rf.bu aa 1 0 rfl ?_
 refine Rf.ah (v:=.bool false) (fun X=>aK (by decide) X) rfl ?_
 refine Rf.ay aa 1 rfl ?_
 refine Rf.ah (v:=.bool true) (fun X=>aM (by decide) X) rfl ?_
 refine Rf.ay aa 1 rfl ?_
 refine Rf.ah (v:=.bool true) (fun X=>bS (by omega) X) rfl ?_
 refine Rf.ay aa 1 rfl ?_
 refine Rf.ah (v:=.bool true) (fun X=>cO (by omega) X) rfl ?_
 refine Rf.ay aa 1 rfl ?_
 refine Rf.ah (v:=.bool true) (fun X=>cO (by omega) X) rfl ?_
 refine Rf.ay aa 1 rfl ?_
 refine Rf.ah (v:=.bool true) (fun X=>bS (by omega) X) rfl ?_
 refine Rf.ay aa 1 rfl ?_
 refine Rf.ah (v:=.bool true) (fun X=>cO (by omega) X) rfl ?_
 refine Rf.HY aa 0 1 rfl ?_
 exact Rf.aaa aa rfl (fun α γ w h=>⟨rfl,h.ex⟩)
theorem dh (w:World) (b p:Nat) (lo hi:Int) (hf:fT b p lo hi) :
  Calls Tryz.prog 14 #[.agg #[.int .i64 ((b:Nat):Int),.int .i64 ((p:Nat):Int),.int .i64 lo,.int .i64 hi]] w fun e w'=>e = .returned (.bool true)∧Pl.Ex w w':=by
 rcases hf.r with rfl | rfl
 · exact oU w p lo hi hf
 · exact mR w p lo hi hf
end Go.Proofs.YtgcieamfidoaoaaGreatDoor
namespace Go.Proofs.YtgcieamfidoaoaaGreatDoor
open Go.RowKit Rf Fm
set_option maxRecDepth 100000
theorem Q0 (w:World) (va:Value) (q:Rat) (L M:Nat) (ha:Qn w va q L M) (b p:Nat) (lo hi:Int) (hf:fT b p lo hi) (n:Int) (J:Nat) (hn:n.natAbs<8*J) (hJ:J≤38) (hL:L≤60) (hM:M≤60) (h0:0≤n) :
  Calls Tryz.prog 53 #[va,.agg #[.int .i64 ((b:Nat):Int),.int .i64 ((p:Nat):Int),.int .i64 lo,.int .i64 hi],.int .i64 n] w fun e w'=>∃ u,e = .returned u∧Qn w' u (q*bp b n) (L+J) (M+J)∧Pl.Ex w w':=by
 obtain ⟨Aa,ca,Ba,ba,rfl,ua,ta,za,ya⟩:=ha
 have f1:=hf.p1
 have f2:=hf.ku
 have f3:=hf.l
 have f4:=hf.l1
 have f5:=hf.h1
 have hb2:=hf.b2
 obtain ⟨k,rfl⟩:∃ k:Nat,n=(k:Int):=⟨n.toNat,by omega⟩
 refine Rf.aA (n:=30) [.a [.c 0 0,.c 0 1,.c 0 2],.a [vI ((b:Nat):Int),vI ((p:Nat):Int),vI lo,vI hi],vI ((k:Nat):Int)] [[.bool (decide (Rat.num q<0)),.slice Aa (limbs (Rat.num q).natAbs).length ca,.slice Ba (limbs (Rat.den q)).length ba]] [(0,(pI q L M).S)] Tryz.func53 rfl (by kernel_rfl) rfl rfl ⟨RS.in ⟨Aa,ca,Ba,ba,rfl,ua,ta,za,ya⟩,trivial⟩ ?_
 refine Rf.bu aa 1 0 rfl ?_
 refine Rf.ah (v:=.bool true) (fun X=>bS (by omega) X) rfl ?_
 refine Rf.HY aa 1 0 rfl ?_
 refine Rf.aQ none fo ?_
 refine Rf.aD aa 8 3 rfl ?_
 refine Rf.ak 1 _ _ rfl (Pl.en Tryz.func36) (fun α γ w h=>dO 1 (bg _ b p k lo hi _ hf.r rfl (by omega))) ?_
 refine Rf.ak 2 _ _ rfl (Pl.en Tryz.func55) (fun α γ w h=>gz 2 (kG _ false _ (limbs (b^k)) (h.r 1 rfl) (Nat.le_trans (bK hf.r (by omega):Sn (b^k) J) (by omega)) _ (aJ _) (((b^k):Nat):Int) rfl)) ?_
 refine Rf.ak 3 _ _ rfl (Pl.en Tryz.func54) (fun α γ w h=>iP 3 (oq _ _ (((b^k):Nat):Int) J (h.r 2 rfl) (Sn.sz (bK hf.r (by omega):Sn (b^k) J)))) ?_
 refine Rf.ak 4 _ _ rfl (Pl.en Tryz.func98) (fun α γ w h=>iP 4 (Kn _ _ _ q (((((b^k):Nat):Int):Int):Rat) L M J 1 (h.r 0 rfl) (h.r 3 rfl) (L+J) (M+1) (by omega) (by omega) (by omega) (by omega))) ?_
 refine Rf.aD aa 8 3 rfl ?_
 refine Rf.aW (by kernel_rfl) ?_
 refine Rf.aP [2,3,4,6] [0,1,2] [0,4] rfl ?_
 exact Rf.aaa aa rfl (fun α γ w h=>⟨_,rfl,by rw [← Ko];exact Qn.le (h.r 4 rfl) (by omega) (by omega),h.ex⟩)
theorem Q3 (w:World) (va:Value) (q:Rat) (L M:Nat) (ha:Qn w va q L M) (b p:Nat) (lo hi:Int) (hf:fT b p lo hi) (n:Int) (J:Nat) (hn:n.natAbs<8*J) (hJ:J≤38) (hL:L≤60) (hM:M≤60) (h0:n<0) :
  Calls Tryz.prog 53 #[va,.agg #[.int .i64 ((b:Nat):Int),.int .i64 ((p:Nat):Int),.int .i64 lo,.int .i64 hi],.int .i64 n] w fun e w'=>∃ u,e = .returned u∧Qn w' u (q*bp b n) (L+J) (M+J)∧Pl.Ex w w':=by
 obtain ⟨Aa,ca,Ba,ba,rfl,ua,ta,za,ya⟩:=ha
 have f1:=hf.p1
 have f2:=hf.ku
 have f3:=hf.l
 have f4:=hf.l1
 have f5:=hf.h1
 have hb2:=hf.b2
 obtain ⟨k,rfl⟩:∃ k:Nat,n = -(k:Int):=⟨(-n).toNat,by omega⟩
 refine Rf.aA (n:=30) [.a [.c 0 0,.c 0 1,.c 0 2],.a [vI ((b:Nat):Int),vI ((p:Nat):Int),vI lo,vI hi],vI (-((k:Nat):Int))] [[.bool (decide (Rat.num q<0)),.slice Aa (limbs (Rat.num q).natAbs).length ca,.slice Ba (limbs (Rat.den q)).length ba]] [(0,(pI q L M).S)] Tryz.func53 rfl (by kernel_rfl) rfl rfl ⟨RS.in ⟨Aa,ca,Ba,ba,rfl,ua,ta,za,ya⟩,trivial⟩ ?_
 refine Rf.bu aa 1 0 rfl ?_
 refine Rf.ah (v:=.bool false) (fun X=>gJ (by omega) X) rfl ?_
 refine Rf.HY aa 2 0 rfl ?_
 refine Rf.aQ none fo ?_
 refine Rf.aD aa 14 3 rfl ?_
 refine Rf.wz (.int .i64 ((k:Nat):Int)) rfl rfl rfl rfl rfl rfl rfl (fun X=>(qY (by omega) X).trans (by rw [Int.neg_neg])) ?_
 refine Rf.ak 1 _ _ rfl (Pl.en Tryz.func36) (fun α γ w h=>dO 1 (bg _ b p k lo hi _ hf.r rfl (by omega))) ?_
 refine Rf.ak 2 _ _ rfl (Pl.en Tryz.func55) (fun α γ w h=>gz 2 (kG _ false _ (limbs (b^k)) (h.r 1 rfl) (Nat.le_trans (bK hf.r (by omega):Sn (b^k) J) (by omega)) _ (aJ _) (((b^k):Nat):Int) rfl)) ?_
 refine Rf.ak 3 _ _ rfl (Pl.en Tryz.func54) (fun α γ w h=>iP 3 (oq _ _ (((b^k):Nat):Int) J (h.r 2 rfl) (Sn.sz (bK hf.r (by omega):Sn (b^k) J)))) ?_
 refine Rf.ak 4 (pI (q/(((((b^k):Nat):Int):Int):Rat)) (L+1) (J+M)) (.t [.a [.c 4 0,.c 4 1,.c 4 2],vI 0]) rfl (Pl.en Tryz.func99) (fun α γ w h=>nJ 4 (Iz _ _ _ q (((((b^k):Nat):Int):Int):Rat) L M J 1 (h.r 0 rfl) (h.r 3 rfl) (L+1) (J+M) (by omega) (by omega) (by omega) (by omega) (YE hb2 k))) ?_
 refine Rf.aD aa 14 3 rfl ?_
 refine Rf.aW (by kernel_rfl) ?_
 refine Rf.aP [6,7] [2,3] [4] rfl ?_
 refine Rf.HX aa 1 4 rfl ?_
 exact Rf.aaa aa rfl (fun α γ w h=>⟨_,rfl,by rw [← UT hb2];exact Qn.le (h.r 4 rfl) (by omega) (by omega),h.ex⟩)
theorem xV (w:World) (va:Value) (q:Rat) (L M:Nat) (ha:Qn w va q L M) (b p:Nat) (lo hi:Int) (hf:fT b p lo hi) (n:Int) (J:Nat) (hn:n.natAbs<8*J) (hJ:J≤38) (hL:L≤60) (hM:M≤60) :
  Calls Tryz.prog 53 #[va,.agg #[.int .i64 ((b:Nat):Int),.int .i64 ((p:Nat):Int),.int .i64 lo,.int .i64 hi],.int .i64 n] w fun e w'=>∃ u,e = .returned u∧Qn w' u (q*bp b n) (L+J) (M+J)∧Pl.Ex w w':=by
 by_cases h:0≤n
 · exact Q0 w va q L M ha b p lo hi hf n J hn hJ hL hM h
 · exact Q3 w va q L M ha b p lo hi hf n J hn hJ hL hM (by omega)
end Go.Proofs.YtgcieamfidoaoaaGreatDoor
namespace Go.Proofs.YtgcieamfidoaoaaGreatDoor
open Go.RowKit Rf Fm
set_option maxRecDepth 100000
def UQR (m:Nat) (q:Rat) (L M:Nat):RS:=⟨fun w f=>Un w (f 0) m∧Qn w (.agg #[f 1,f 2,f 3]) q L M,fun ⟨u,⟨A,c,B,b,e,u1,t,z,y⟩⟩ hs hk=>⟨jd u hs hk,⟨A,c,B,b,e,jd u1 hs hk,jd t hs hk,z,y⟩⟩⟩
theorem ab9 {P:Program} {f:FuncId} {args:Array Value} {w:World} {α:Env} {γ:kR} {m:Nat} {q:Rat} {L M:Nat} (g:Nat) (h:Calls P f args w (fun e w'=>∃ u v,e = .returned (.tuple #[u,v])∧Un w' u m∧Qn w' v q L M∧Pl.Ex w w')) :
  Calls P f args w (fun e w'=>∃ F,(∀ k,bG (F k)=true)∧e = .returned (den α (upd γ g F) (.t [.c g 0,.a [.c g 1,.c g 2,.c g 3]]))∧(UQR m q L M).R w' F∧Pl.Ex w w'):=Calls.mono h fun e w' ⟨u,v,he,hu,⟨A,c,B,b,hv,hU,hT,hz,hy⟩,hE⟩=>by
 obtain ⟨C,d,hc⟩:=Un.jX hu
 subst hc hv he
 refine ⟨wo [.slice C (limbs m).length d,.bool (decide (q.num<0)),.slice A (limbs q.num.natAbs).length c,.slice B (limbs q.den).length b],eG rfl,?_,⟨hu,A,c,B,b,rfl,hU,hT,hz,hy⟩,hE⟩
 simp only [den,bZ,upd_same];rfl
theorem aad:Rat.divInt 1 2=1/2:=by rw [Rat.divInt_eq_div];rfl
theorem acC {n o:Bool} {r:Rat}:nR 0 n o r=(decide (1/2<r)||decide (r=1/2)&&o):=by unfold nR;simp
theorem acQ {n o:Bool} {r:Rat}:nR 1 n o r=decide (1/2≤r):=by unfold nR;simp
theorem acR {n o:Bool} {r:Rat}:nR 3 n o r=(!n&&decide (0<r)):=by unfold nR;simp
theorem acS {n o:Bool} {r:Rat}:nR 4 n o r=(n&&decide (0<r)):=by unfold nR;simp
theorem acV {n o:Bool} {r:Rat}:nR 2 n o r=false:=by unfold nR;simp
theorem aaf (w:World) (va:Value) (q:Rat) (L M:Nat) (ha:Qn w va q L M) (K N:Nat) (h1:L+M+2≤K) (h2:M+1≤N) (hK:K≤100) (hN:N≤100) :
  Calls Tryz.prog 75 #[va] w fun e w'=>∃ u v,e = .returned (.tuple #[u,v])∧Un w' u (Int.natAbs (Rat.floor q))∧Qn w' v (q-((Rat.floor q:Int):Rat)) K N∧Pl.Ex w w':=by
 obtain ⟨Aa,ca,Ba,ba,rfl,ua,ta,za,ya⟩:=ha
 refine Rf.aA (n:=13) [.a [.c 0 0,.c 0 1,.c 0 2]] [[.bool (decide (Rat.num q<0)),.slice Aa (limbs (Rat.num q).natAbs).length ca,.slice Ba (limbs (Rat.den q)).length ba]] [(0,(pI q L M).S)] Tryz.func75 rfl (by kernel_rfl) rfl rfl ⟨RS.in ⟨Aa,ca,Ba,ba,rfl,ua,ta,za,ya⟩,trivial⟩ ?_
 refine Rf.bu aa 1 0 rfl ?_
 refine Rf.aC 1 _ _ rfl (Pl.en Tryz.func127) (fun α γ w h=>gz 1 (abq _ _ q L M (h.r 0 rfl) (by omega) (by omega))) ?_
 refine Rf.HY aa 0 2 rfl ?_
 refine Rf.aQ none fo ?_
 refine Rf.aD aa 8 3 rfl ?_
 refine Rf.ak 2 _ _ rfl (Pl.en Tryz.func54) (fun α γ w h=>iP 2 (oq _ _ (Rat.floor q) L (h.r 1 rfl) (abN za))) ?_
 refine Rf.ak 3 _ _ rfl (Pl.en Tryz.func81) (fun α γ w h=>iP 3 (abI _ _ _ q ((Rat.floor q:Int):Rat) L M L 1 (h.r 0 rfl) (h.r 2 rfl) (L+M+2) (M+1) (by omega) (by omega) (by omega) (by omega) (by omega))) ?_
 refine Rf.aD aa 8 3 rfl ?_
 refine Rf.aW (by kernel_rfl) ?_
 refine Rf.aP [2,3] [1] [1,3] rfl ?_
 exact Rf.aaa aa rfl (fun α γ w h=>⟨_,_,rfl,Qc (h.r 1 rfl),Qn.le (h.r 3 rfl) (by omega) (by omega),h.ex⟩)
theorem abS (w:World) (va:Value) (r:Rat) (L M:Nat) (ha:Qn w va r L M) (o:Bool) (hL:L≤300) (hM:M≤300) (n:Bool) (h1:1/2<r) :
  Calls Tryz.prog 76 #[.int .i64 0,.bool n,.bool o,va] w fun e w'=>e = .returned (.bool (nR 0 n o r))∧Pl.Ex w w':=by
 obtain ⟨Aa,ca,Ba,ba,rfl,ua,ta,za,ya⟩:=ha
 refine Rf.aA (n:=49) [vI 0,vB n,vB o,.a [.c 0 0,.c 0 1,.c 0 2]] [[.bool (decide (Rat.num r<0)),.slice Aa (limbs (Rat.num r).natAbs).length ca,.slice Ba (limbs (Rat.den r)).length ba]] [(0,(pI r L M).S)] Tryz.func76 rfl (by kernel_rfl) rfl rfl ⟨RS.in ⟨Aa,ca,Ba,ba,rfl,ua,ta,za,ya⟩,trivial⟩ ?_
 refine Rf.bu aa 1 0 rfl ?_
 refine Rf.aC 1 _ _ rfl (Pl.en Tryz.func60) (fun α γ w h=>gz 1 (abe _ 1 (by decide) (by decide))) ?_
 refine Rf.aC 2 _ _ rfl (Pl.en Tryz.func60) (fun α γ w h=>gz 2 (abe _ 2 (by decide) (by decide))) ?_
 refine Rf.aC 3 (pI (Rat.divInt 1 2) 1 1) (.t [.a [.c 3 0,.c 3 1,.c 3 2],vI 0]) rfl (Pl.en Tryz.func59) (fun α γ w h=>nJ 3 (kK _ _ _ 1 2 (h.r 1 rfl) (h.r 2 rfl) 1 1 (Sz.lit (K:=1) (by decide) (by decide)) (Sz.lit (K:=1) (by decide) (by decide)) (by omega) (by omega) (by omega))) ?_
 refine Rf.bY aa 0 1 rfl ?_
 refine Rf.aC 4 _ _ rfl (Pl.en Tryz.func32) (fun α γ w h=>aU 4 (IA _ _ _ r (Rat.divInt 1 2) L M 1 1 (h.r 0 rfl) (h.r 3 rfl) (by omega) (by omega))) ?_
 refine Rf.bY aa 0 2 rfl ?_
 refine Rf.ah (v:=.bool true) (fun X=>aM (by decide) X) rfl ?_
 refine Rf.bY aa 1 2 rfl ?_
 refine Rf.ah (v:=.bool true) (fun X=>jR (Ce.2 (aad ▸ h1)) X) rfl ?_
 refine Rf.HY aa 0 2 rfl ?_
 exact Rf.aaa aa rfl (fun α γ w h=>⟨by rw [acC,decide_eq_true h1]<;>(cases o<;>rfl),h.ex⟩)
theorem abT (w:World) (va:Value) (r:Rat) (L M:Nat) (ha:Qn w va r L M) (o:Bool) (hL:L≤300) (hM:M≤300) (n:Bool) (h1:r=1/2) :
  Calls Tryz.prog 76 #[.int .i64 0,.bool n,.bool o,va] w fun e w'=>e = .returned (.bool (nR 0 n o r))∧Pl.Ex w w':=by
 obtain ⟨Aa,ca,Ba,ba,rfl,ua,ta,za,ya⟩:=ha
 refine Rf.aA (n:=49) [vI 0,vB n,vB o,.a [.c 0 0,.c 0 1,.c 0 2]] [[.bool (decide (Rat.num r<0)),.slice Aa (limbs (Rat.num r).natAbs).length ca,.slice Ba (limbs (Rat.den r)).length ba]] [(0,(pI r L M).S)] Tryz.func76 rfl (by kernel_rfl) rfl rfl ⟨RS.in ⟨Aa,ca,Ba,ba,rfl,ua,ta,za,ya⟩,trivial⟩ ?_
 refine Rf.bu aa 1 0 rfl ?_
 refine Rf.aC 1 _ _ rfl (Pl.en Tryz.func60) (fun α γ w h=>gz 1 (abe _ 1 (by decide) (by decide))) ?_
 refine Rf.aC 2 _ _ rfl (Pl.en Tryz.func60) (fun α γ w h=>gz 2 (abe _ 2 (by decide) (by decide))) ?_
 refine Rf.aC 3 (pI (Rat.divInt 1 2) 1 1) (.t [.a [.c 3 0,.c 3 1,.c 3 2],vI 0]) rfl (Pl.en Tryz.func59) (fun α γ w h=>nJ 3 (kK _ _ _ 1 2 (h.r 1 rfl) (h.r 2 rfl) 1 1 (Sz.lit (K:=1) (by decide) (by decide)) (Sz.lit (K:=1) (by decide) (by decide)) (by omega) (by omega) (by omega))) ?_
 refine Rf.bY aa 0 1 rfl ?_
 refine Rf.aC 4 _ _ rfl (Pl.en Tryz.func32) (fun α γ w h=>aU 4 (IA _ _ _ r (Rat.divInt 1 2) L M 1 1 (h.r 0 rfl) (h.r 3 rfl) (by omega) (by omega))) ?_
 refine Rf.bY aa 0 2 rfl ?_
 refine Rf.ah (v:=.bool true) (fun X=>aM (by decide) X) rfl ?_
 refine Rf.bY aa 1 2 rfl ?_
 refine Rf.ah (v:=.bool false) (fun X=>bz (fun h=>by have h9:=Ce.1 h;rw [aad] at h9;grind) X) rfl ?_
 refine Rf.ay aa 2 rfl ?_
 refine Rf.ah (v:=.bool true) (fun X=>aM (tK.2 (aad ▸ h1)) X) rfl ?_
 refine Rf.HY aa 0 2 rfl ?_
 exact Rf.aaa aa rfl (fun α γ w h=>⟨by rw [acC,h1,decide_eq_false (show ¬ (1/2:Rat)<1/2 by grind),decide_eq_true rfl]<;>(cases o<;>rfl),h.ex⟩)
theorem abZ (w:World) (va:Value) (r:Rat) (L M:Nat) (ha:Qn w va r L M) (o:Bool) (hL:L≤300) (hM:M≤300) (n:Bool) (h1:r<1/2) :
  Calls Tryz.prog 76 #[.int .i64 0,.bool n,.bool o,va] w fun e w'=>e = .returned (.bool (nR 0 n o r))∧Pl.Ex w w':=by
 obtain ⟨Aa,ca,Ba,ba,rfl,ua,ta,za,ya⟩:=ha
 refine Rf.aA (n:=49) [vI 0,vB n,vB o,.a [.c 0 0,.c 0 1,.c 0 2]] [[.bool (decide (Rat.num r<0)),.slice Aa (limbs (Rat.num r).natAbs).length ca,.slice Ba (limbs (Rat.den r)).length ba]] [(0,(pI r L M).S)] Tryz.func76 rfl (by kernel_rfl) rfl rfl ⟨RS.in ⟨Aa,ca,Ba,ba,rfl,ua,ta,za,ya⟩,trivial⟩ ?_
 refine Rf.bu aa 1 0 rfl ?_
 refine Rf.aC 1 _ _ rfl (Pl.en Tryz.func60) (fun α γ w h=>gz 1 (abe _ 1 (by decide) (by decide))) ?_
 refine Rf.aC 2 _ _ rfl (Pl.en Tryz.func60) (fun α γ w h=>gz 2 (abe _ 2 (by decide) (by decide))) ?_
 refine Rf.aC 3 (pI (Rat.divInt 1 2) 1 1) (.t [.a [.c 3 0,.c 3 1,.c 3 2],vI 0]) rfl (Pl.en Tryz.func59) (fun α γ w h=>nJ 3 (kK _ _ _ 1 2 (h.r 1 rfl) (h.r 2 rfl) 1 1 (Sz.lit (K:=1) (by decide) (by decide)) (Sz.lit (K:=1) (by decide) (by decide)) (by omega) (by omega) (by omega))) ?_
 refine Rf.bY aa 0 1 rfl ?_
 refine Rf.aC 4 _ _ rfl (Pl.en Tryz.func32) (fun α γ w h=>aU 4 (IA _ _ _ r (Rat.divInt 1 2) L M 1 1 (h.r 0 rfl) (h.r 3 rfl) (by omega) (by omega))) ?_
 refine Rf.bY aa 0 2 rfl ?_
 refine Rf.ah (v:=.bool true) (fun X=>aM (by decide) X) rfl ?_
 refine Rf.bY aa 1 2 rfl ?_
 refine Rf.ah (v:=.bool false) (fun X=>bz (fun h=>by have h9:=Ce.1 h;rw [aad] at h9;grind) X) rfl ?_
 refine Rf.ay aa 2 rfl ?_
 refine Rf.ah (v:=.bool false) (fun X=>aK (fun h=>by have h9:=tK.1 h;rw [aad] at h9;grind) X) rfl ?_
 refine Rf.HY aa 0 2 rfl ?_
 exact Rf.aaa aa rfl (fun α γ w h=>⟨by rw [acC,decide_eq_false (show ¬ (1/2:Rat)<r by grind),decide_eq_false (show ¬ r=(1/2:Rat) by grind)]<;>(cases o<;>rfl),h.ex⟩)
theorem ab0 (w:World) (va:Value) (r:Rat) (L M:Nat) (ha:Qn w va r L M) (o:Bool) (hL:L≤300) (hM:M≤300) (n:Bool) (h1:1/2≤r) :
  Calls Tryz.prog 76 #[.int .i64 1,.bool n,.bool o,va] w fun e w'=>e = .returned (.bool (nR 1 n o r))∧Pl.Ex w w':=by
 obtain ⟨Aa,ca,Ba,ba,rfl,ua,ta,za,ya⟩:=ha
 refine Rf.aA (n:=49) [vI 1,vB n,vB o,.a [.c 0 0,.c 0 1,.c 0 2]] [[.bool (decide (Rat.num r<0)),.slice Aa (limbs (Rat.num r).natAbs).length ca,.slice Ba (limbs (Rat.den r)).length ba]] [(0,(pI r L M).S)] Tryz.func76 rfl (by kernel_rfl) rfl rfl ⟨RS.in ⟨Aa,ca,Ba,ba,rfl,ua,ta,za,ya⟩,trivial⟩ ?_
 refine Rf.bu aa 1 0 rfl ?_
 refine Rf.aC 1 _ _ rfl (Pl.en Tryz.func60) (fun α γ w h=>gz 1 (abe _ 1 (by decide) (by decide))) ?_
 refine Rf.aC 2 _ _ rfl (Pl.en Tryz.func60) (fun α γ w h=>gz 2 (abe _ 2 (by decide) (by decide))) ?_
 refine Rf.aC 3 (pI (Rat.divInt 1 2) 1 1) (.t [.a [.c 3 0,.c 3 1,.c 3 2],vI 0]) rfl (Pl.en Tryz.func59) (fun α γ w h=>nJ 3 (kK _ _ _ 1 2 (h.r 1 rfl) (h.r 2 rfl) 1 1 (Sz.lit (K:=1) (by decide) (by decide)) (Sz.lit (K:=1) (by decide) (by decide)) (by omega) (by omega) (by omega))) ?_
 refine Rf.bY aa 0 1 rfl ?_
 refine Rf.aC 4 _ _ rfl (Pl.en Tryz.func32) (fun α γ w h=>aU 4 (IA _ _ _ r (Rat.divInt 1 2) L M 1 1 (h.r 0 rfl) (h.r 3 rfl) (by omega) (by omega))) ?_
 refine Rf.bY aa 0 2 rfl ?_
 refine Rf.ah (v:=.bool false) (fun X=>aK (by decide) X) rfl ?_
 refine Rf.bY aa 2 2 rfl ?_
 refine Rf.ah (v:=.bool true) (fun X=>aM (by decide) X) rfl ?_
 refine Rf.bY aa 1 2 rfl ?_
 refine Rf.ah (v:=.bool true) (fun X=>bS (Me.2 (aad ▸ h1)) X) rfl ?_
 refine Rf.HY aa 0 2 rfl ?_
 exact Rf.aaa aa rfl (fun α γ w h=>⟨by rw [acQ,decide_eq_true h1]<;>(cases o<;>rfl),h.ex⟩)
theorem ab1 (w:World) (va:Value) (r:Rat) (L M:Nat) (ha:Qn w va r L M) (o:Bool) (hL:L≤300) (hM:M≤300) (n:Bool) (h1:¬ 1/2≤r) :
  Calls Tryz.prog 76 #[.int .i64 1,.bool n,.bool o,va] w fun e w'=>e = .returned (.bool (nR 1 n o r))∧Pl.Ex w w':=by
 obtain ⟨Aa,ca,Ba,ba,rfl,ua,ta,za,ya⟩:=ha
 refine Rf.aA (n:=49) [vI 1,vB n,vB o,.a [.c 0 0,.c 0 1,.c 0 2]] [[.bool (decide (Rat.num r<0)),.slice Aa (limbs (Rat.num r).natAbs).length ca,.slice Ba (limbs (Rat.den r)).length ba]] [(0,(pI r L M).S)] Tryz.func76 rfl (by kernel_rfl) rfl rfl ⟨RS.in ⟨Aa,ca,Ba,ba,rfl,ua,ta,za,ya⟩,trivial⟩ ?_
 refine Rf.bu aa 1 0 rfl ?_
 refine Rf.aC 1 _ _ rfl (Pl.en Tryz.func60) (fun α γ w h=>gz 1 (abe _ 1 (by decide) (by decide))) ?_
 refine Rf.aC 2 _ _ rfl (Pl.en Tryz.func60) (fun α γ w h=>gz 2 (abe _ 2 (by decide) (by decide))) ?_
 refine Rf.aC 3 (pI (Rat.divInt 1 2) 1 1) (.t [.a [.c 3 0,.c 3 1,.c 3 2],vI 0]) rfl (Pl.en Tryz.func59) (fun α γ w h=>nJ 3 (kK _ _ _ 1 2 (h.r 1 rfl) (h.r 2 rfl) 1 1 (Sz.lit (K:=1) (by decide) (by decide)) (Sz.lit (K:=1) (by decide) (by decide)) (by omega) (by omega) (by omega))) ?_
 refine Rf.bY aa 0 1 rfl ?_
 refine Rf.aC 4 _ _ rfl (Pl.en Tryz.func32) (fun α γ w h=>aU 4 (IA _ _ _ r (Rat.divInt 1 2) L M 1 1 (h.r 0 rfl) (h.r 3 rfl) (by omega) (by omega))) ?_
 refine Rf.bY aa 0 2 rfl ?_
 refine Rf.ah (v:=.bool false) (fun X=>aK (by decide) X) rfl ?_
 refine Rf.bY aa 2 2 rfl ?_
 refine Rf.ah (v:=.bool true) (fun X=>aM (by decide) X) rfl ?_
 refine Rf.bY aa 1 2 rfl ?_
 refine Rf.ah (v:=.bool false) (fun X=>gJ (fun h=>h1 (aad ▸ Me.1 h)) X) rfl ?_
 refine Rf.HY aa 0 2 rfl ?_
 exact Rf.aaa aa rfl (fun α γ w h=>⟨by rw [acQ,decide_eq_false h1]<;>(cases o<;>rfl),h.ex⟩)
theorem acD (w:World) (va:Value) (r:Rat) (L M:Nat) (ha:Qn w va r L M) (o:Bool) (hL:L≤300) (hM:M≤300) :
  Calls Tryz.prog 76 #[.int .i64 2,.bool false,.bool o,va] w fun e w'=>e = .returned (.bool (nR 2 false o r))∧Pl.Ex w w':=by
 obtain ⟨Aa,ca,Ba,ba,rfl,ua,ta,za,ya⟩:=ha
 refine Rf.aA (n:=49) [vI 2,vF,vB o,.a [.c 0 0,.c 0 1,.c 0 2]] [[.bool (decide (Rat.num r<0)),.slice Aa (limbs (Rat.num r).natAbs).length ca,.slice Ba (limbs (Rat.den r)).length ba]] [(0,(pI r L M).S)] Tryz.func76 rfl (by kernel_rfl) rfl rfl ⟨RS.in ⟨Aa,ca,Ba,ba,rfl,ua,ta,za,ya⟩,trivial⟩ ?_
 refine Rf.bu aa 1 0 rfl ?_
 refine Rf.aC 1 _ _ rfl (Pl.en Tryz.func60) (fun α γ w h=>gz 1 (abe _ 1 (by decide) (by decide))) ?_
 refine Rf.aC 2 _ _ rfl (Pl.en Tryz.func60) (fun α γ w h=>gz 2 (abe _ 2 (by decide) (by decide))) ?_
 refine Rf.aC 3 (pI (Rat.divInt 1 2) 1 1) (.t [.a [.c 3 0,.c 3 1,.c 3 2],vI 0]) rfl (Pl.en Tryz.func59) (fun α γ w h=>nJ 3 (kK _ _ _ 1 2 (h.r 1 rfl) (h.r 2 rfl) 1 1 (Sz.lit (K:=1) (by decide) (by decide)) (Sz.lit (K:=1) (by decide) (by decide)) (by omega) (by omega) (by omega))) ?_
 refine Rf.bY aa 0 1 rfl ?_
 refine Rf.aC 4 _ _ rfl (Pl.en Tryz.func32) (fun α γ w h=>aU 4 (IA _ _ _ r (Rat.divInt 1 2) L M 1 1 (h.r 0 rfl) (h.r 3 rfl) (by omega) (by omega))) ?_
 refine Rf.bY aa 0 2 rfl ?_
 refine Rf.ah (v:=.bool false) (fun X=>aK (by decide) X) rfl ?_
 refine Rf.bY aa 2 2 rfl ?_
 refine Rf.ah (v:=.bool false) (fun X=>aK (by decide) X) rfl ?_
 refine Rf.bY aa 2 2 rfl ?_
 refine Rf.ah (v:=.bool false) (fun X=>aK (by decide) X) rfl ?_
 refine Rf.ay aa 2 rfl ?_
 refine Rf.ah (v:=.bool false) (fun X=>aK (by decide) X) rfl ?_
 refine Rf.HY aa 0 2 rfl ?_
 exact Rf.aaa aa rfl (fun α γ w h=>⟨by rw [acV]<;>(cases o<;>rfl),h.ex⟩)
theorem ab2 (w:World) (va:Value) (r:Rat) (L M:Nat) (ha:Qn w va r L M) (o:Bool) (hL:L≤300) (hM:M≤300) :
  Calls Tryz.prog 76 #[.int .i64 2,.bool true,.bool o,va] w fun e w'=>e = .returned (.bool (nR 2 true o r))∧Pl.Ex w w':=by
 obtain ⟨Aa,ca,Ba,ba,rfl,ua,ta,za,ya⟩:=ha
 refine Rf.aA (n:=49) [vI 2,vT,vB o,.a [.c 0 0,.c 0 1,.c 0 2]] [[.bool (decide (Rat.num r<0)),.slice Aa (limbs (Rat.num r).natAbs).length ca,.slice Ba (limbs (Rat.den r)).length ba]] [(0,(pI r L M).S)] Tryz.func76 rfl (by kernel_rfl) rfl rfl ⟨RS.in ⟨Aa,ca,Ba,ba,rfl,ua,ta,za,ya⟩,trivial⟩ ?_
 refine Rf.bu aa 1 0 rfl ?_
 refine Rf.aC 1 _ _ rfl (Pl.en Tryz.func60) (fun α γ w h=>gz 1 (abe _ 1 (by decide) (by decide))) ?_
 refine Rf.aC 2 _ _ rfl (Pl.en Tryz.func60) (fun α γ w h=>gz 2 (abe _ 2 (by decide) (by decide))) ?_
 refine Rf.aC 3 (pI (Rat.divInt 1 2) 1 1) (.t [.a [.c 3 0,.c 3 1,.c 3 2],vI 0]) rfl (Pl.en Tryz.func59) (fun α γ w h=>nJ 3 (kK _ _ _ 1 2 (h.r 1 rfl) (h.r 2 rfl) 1 1 (Sz.lit (K:=1) (by decide) (by decide)) (Sz.lit (K:=1) (by decide) (by decide)) (by omega) (by omega) (by omega))) ?_
 refine Rf.bY aa 0 1 rfl ?_
 refine Rf.aC 4 _ _ rfl (Pl.en Tryz.func32) (fun α γ w h=>aU 4 (IA _ _ _ r (Rat.divInt 1 2) L M 1 1 (h.r 0 rfl) (h.r 3 rfl) (by omega) (by omega))) ?_
 refine Rf.bY aa 0 2 rfl ?_
 refine Rf.ah (v:=.bool false) (fun X=>aK (by decide) X) rfl ?_
 refine Rf.bY aa 2 2 rfl ?_
 refine Rf.ah (v:=.bool false) (fun X=>aK (by decide) X) rfl ?_
 refine Rf.bY aa 2 2 rfl ?_
 refine Rf.ah (v:=.bool false) (fun X=>aK (by decide) X) rfl ?_
 refine Rf.ay aa 2 rfl ?_
 refine Rf.ah (v:=.bool false) (fun X=>aK (by decide) X) rfl ?_
 refine Rf.HY aa 0 2 rfl ?_
 exact Rf.aaa aa rfl (fun α γ w h=>⟨by rw [acV]<;>(cases o<;>rfl),h.ex⟩)
theorem ab3 (w:World) (va:Value) (r:Rat) (L M:Nat) (ha:Qn w va r L M) (o:Bool) (hL:L≤300) (hM:M≤300) (h1:0<r) :
  Calls Tryz.prog 76 #[.int .i64 3,.bool true,.bool o,va] w fun e w'=>e = .returned (.bool (nR 3 true o r))∧Pl.Ex w w':=by
 obtain ⟨Aa,ca,Ba,ba,rfl,ua,ta,za,ya⟩:=ha
 refine Rf.aA (n:=49) [vI 3,vT,vB o,.a [.c 0 0,.c 0 1,.c 0 2]] [[.bool (decide (Rat.num r<0)),.slice Aa (limbs (Rat.num r).natAbs).length ca,.slice Ba (limbs (Rat.den r)).length ba]] [(0,(pI r L M).S)] Tryz.func76 rfl (by kernel_rfl) rfl rfl ⟨RS.in ⟨Aa,ca,Ba,ba,rfl,ua,ta,za,ya⟩,trivial⟩ ?_
 refine Rf.bu aa 1 0 rfl ?_
 refine Rf.aC 1 _ _ rfl (Pl.en Tryz.func60) (fun α γ w h=>gz 1 (abe _ 1 (by decide) (by decide))) ?_
 refine Rf.aC 2 _ _ rfl (Pl.en Tryz.func60) (fun α γ w h=>gz 2 (abe _ 2 (by decide) (by decide))) ?_
 refine Rf.aC 3 (pI (Rat.divInt 1 2) 1 1) (.t [.a [.c 3 0,.c 3 1,.c 3 2],vI 0]) rfl (Pl.en Tryz.func59) (fun α γ w h=>nJ 3 (kK _ _ _ 1 2 (h.r 1 rfl) (h.r 2 rfl) 1 1 (Sz.lit (K:=1) (by decide) (by decide)) (Sz.lit (K:=1) (by decide) (by decide)) (by omega) (by omega) (by omega))) ?_
 refine Rf.bY aa 0 1 rfl ?_
 refine Rf.aC 4 _ _ rfl (Pl.en Tryz.func32) (fun α γ w h=>aU 4 (IA _ _ _ r (Rat.divInt 1 2) L M 1 1 (h.r 0 rfl) (h.r 3 rfl) (by omega) (by omega))) ?_
 refine Rf.bY aa 0 2 rfl ?_
 refine Rf.ah (v:=.bool false) (fun X=>aK (by decide) X) rfl ?_
 refine Rf.bY aa 2 2 rfl ?_
 refine Rf.ah (v:=.bool false) (fun X=>aK (by decide) X) rfl ?_
 refine Rf.bY aa 2 2 rfl ?_
 refine Rf.ah (v:=.bool true) (fun X=>aM (by decide) X) rfl ?_
 refine Rf.ay aa 2 rfl ?_
 refine Rf.aV (.bool false) rfl (fun X=>aT _ X) ?_
 refine Rf.ay aa 2 rfl ?_
 refine Rf.ah (v:=.bool false) (fun X=>aK (by decide) X) rfl ?_
 refine Rf.HY aa 0 2 rfl ?_
 exact Rf.aaa aa rfl (fun α γ w h=>⟨by rw [acR,decide_eq_true h1]<;>(cases o<;>rfl),h.ex⟩)
theorem ab4 (w:World) (va:Value) (r:Rat) (L M:Nat) (ha:Qn w va r L M) (o:Bool) (hL:L≤300) (hM:M≤300) (h1:0<r) :
  Calls Tryz.prog 76 #[.int .i64 3,.bool false,.bool o,va] w fun e w'=>e = .returned (.bool (nR 3 false o r))∧Pl.Ex w w':=by
 obtain ⟨Aa,ca,Ba,ba,rfl,ua,ta,za,ya⟩:=ha
 refine Rf.aA (n:=49) [vI 3,vF,vB o,.a [.c 0 0,.c 0 1,.c 0 2]] [[.bool (decide (Rat.num r<0)),.slice Aa (limbs (Rat.num r).natAbs).length ca,.slice Ba (limbs (Rat.den r)).length ba]] [(0,(pI r L M).S)] Tryz.func76 rfl (by kernel_rfl) rfl rfl ⟨RS.in ⟨Aa,ca,Ba,ba,rfl,ua,ta,za,ya⟩,trivial⟩ ?_
 refine Rf.bu aa 1 0 rfl ?_
 refine Rf.aC 1 _ _ rfl (Pl.en Tryz.func60) (fun α γ w h=>gz 1 (abe _ 1 (by decide) (by decide))) ?_
 refine Rf.aC 2 _ _ rfl (Pl.en Tryz.func60) (fun α γ w h=>gz 2 (abe _ 2 (by decide) (by decide))) ?_
 refine Rf.aC 3 (pI (Rat.divInt 1 2) 1 1) (.t [.a [.c 3 0,.c 3 1,.c 3 2],vI 0]) rfl (Pl.en Tryz.func59) (fun α γ w h=>nJ 3 (kK _ _ _ 1 2 (h.r 1 rfl) (h.r 2 rfl) 1 1 (Sz.lit (K:=1) (by decide) (by decide)) (Sz.lit (K:=1) (by decide) (by decide)) (by omega) (by omega) (by omega))) ?_
 refine Rf.bY aa 0 1 rfl ?_
 refine Rf.aC 4 _ _ rfl (Pl.en Tryz.func32) (fun α γ w h=>aU 4 (IA _ _ _ r (Rat.divInt 1 2) L M 1 1 (h.r 0 rfl) (h.r 3 rfl) (by omega) (by omega))) ?_
 refine Rf.bY aa 0 2 rfl ?_
 refine Rf.ah (v:=.bool false) (fun X=>aK (by decide) X) rfl ?_
 refine Rf.bY aa 2 2 rfl ?_
 refine Rf.ah (v:=.bool false) (fun X=>aK (by decide) X) rfl ?_
 refine Rf.bY aa 2 2 rfl ?_
 refine Rf.ah (v:=.bool true) (fun X=>aM (by decide) X) rfl ?_
 refine Rf.ay aa 2 rfl ?_
 refine Rf.aV (.bool true) rfl (fun X=>aT _ X) ?_
 refine Rf.HY aa 0 2 rfl ?_
 exact Rf.aaa aa rfl (fun α γ w h=>⟨by rw [acR,decide_eq_true h1]<;>(cases o<;>rfl),h.ex⟩)
theorem ab7 (w:World) (va:Value) (r:Rat) (L M:Nat) (ha:Qn w va r L M) (o:Bool) (hL:L≤300) (hM:M≤300) (h1:0<r) :
  Calls Tryz.prog 76 #[.int .i64 4,.bool true,.bool o,va] w fun e w'=>e = .returned (.bool (nR 4 true o r))∧Pl.Ex w w':=by
 obtain ⟨Aa,ca,Ba,ba,rfl,ua,ta,za,ya⟩:=ha
 refine Rf.aA (n:=49) [vI 4,vT,vB o,.a [.c 0 0,.c 0 1,.c 0 2]] [[.bool (decide (Rat.num r<0)),.slice Aa (limbs (Rat.num r).natAbs).length ca,.slice Ba (limbs (Rat.den r)).length ba]] [(0,(pI r L M).S)] Tryz.func76 rfl (by kernel_rfl) rfl rfl ⟨RS.in ⟨Aa,ca,Ba,ba,rfl,ua,ta,za,ya⟩,trivial⟩ ?_
 refine Rf.bu aa 1 0 rfl ?_
 refine Rf.aC 1 _ _ rfl (Pl.en Tryz.func60) (fun α γ w h=>gz 1 (abe _ 1 (by decide) (by decide))) ?_
 refine Rf.aC 2 _ _ rfl (Pl.en Tryz.func60) (fun α γ w h=>gz 2 (abe _ 2 (by decide) (by decide))) ?_
 refine Rf.aC 3 (pI (Rat.divInt 1 2) 1 1) (.t [.a [.c 3 0,.c 3 1,.c 3 2],vI 0]) rfl (Pl.en Tryz.func59) (fun α γ w h=>nJ 3 (kK _ _ _ 1 2 (h.r 1 rfl) (h.r 2 rfl) 1 1 (Sz.lit (K:=1) (by decide) (by decide)) (Sz.lit (K:=1) (by decide) (by decide)) (by omega) (by omega) (by omega))) ?_
 refine Rf.bY aa 0 1 rfl ?_
 refine Rf.aC 4 _ _ rfl (Pl.en Tryz.func32) (fun α γ w h=>aU 4 (IA _ _ _ r (Rat.divInt 1 2) L M 1 1 (h.r 0 rfl) (h.r 3 rfl) (by omega) (by omega))) ?_
 refine Rf.bY aa 0 2 rfl ?_
 refine Rf.ah (v:=.bool false) (fun X=>aK (by decide) X) rfl ?_
 refine Rf.bY aa 2 2 rfl ?_
 refine Rf.ah (v:=.bool false) (fun X=>aK (by decide) X) rfl ?_
 refine Rf.bY aa 2 2 rfl ?_
 refine Rf.ah (v:=.bool false) (fun X=>aK (by decide) X) rfl ?_
 refine Rf.ay aa 2 rfl ?_
 refine Rf.ah (v:=.bool true) (fun X=>aM (by decide) X) rfl ?_
 refine Rf.HY aa 0 2 rfl ?_
 exact Rf.aaa aa rfl (fun α γ w h=>⟨by rw [acS,decide_eq_true h1]<;>(cases o<;>rfl),h.ex⟩)
theorem ab8 (w:World) (va:Value) (r:Rat) (L M:Nat) (ha:Qn w va r L M) (o:Bool) (hL:L≤300) (hM:M≤300) (h1:0<r) :
  Calls Tryz.prog 76 #[.int .i64 4,.bool false,.bool o,va] w fun e w'=>e = .returned (.bool (nR 4 false o r))∧Pl.Ex w w':=by
 obtain ⟨Aa,ca,Ba,ba,rfl,ua,ta,za,ya⟩:=ha
 refine Rf.aA (n:=49) [vI 4,vF,vB o,.a [.c 0 0,.c 0 1,.c 0 2]] [[.bool (decide (Rat.num r<0)),.slice Aa (limbs (Rat.num r).natAbs).length ca,.slice Ba (limbs (Rat.den r)).length ba]] [(0,(pI r L M).S)] Tryz.func76 rfl (by kernel_rfl) rfl rfl ⟨RS.in ⟨Aa,ca,Ba,ba,rfl,ua,ta,za,ya⟩,trivial⟩ ?_
 refine Rf.bu aa 1 0 rfl ?_
 refine Rf.aC 1 _ _ rfl (Pl.en Tryz.func60) (fun α γ w h=>gz 1 (abe _ 1 (by decide) (by decide))) ?_
 refine Rf.aC 2 _ _ rfl (Pl.en Tryz.func60) (fun α γ w h=>gz 2 (abe _ 2 (by decide) (by decide))) ?_
 refine Rf.aC 3 (pI (Rat.divInt 1 2) 1 1) (.t [.a [.c 3 0,.c 3 1,.c 3 2],vI 0]) rfl (Pl.en Tryz.func59) (fun α γ w h=>nJ 3 (kK _ _ _ 1 2 (h.r 1 rfl) (h.r 2 rfl) 1 1 (Sz.lit (K:=1) (by decide) (by decide)) (Sz.lit (K:=1) (by decide) (by decide)) (by omega) (by omega) (by omega))) ?_
 refine Rf.bY aa 0 1 rfl ?_
 refine Rf.aC 4 _ _ rfl (Pl.en Tryz.func32) (fun α γ w h=>aU 4 (IA _ _ _ r (Rat.divInt 1 2) L M 1 1 (h.r 0 rfl) (h.r 3 rfl) (by omega) (by omega))) ?_
 refine Rf.bY aa 0 2 rfl ?_
 refine Rf.ah (v:=.bool false) (fun X=>aK (by decide) X) rfl ?_
 refine Rf.bY aa 2 2 rfl ?_
 refine Rf.ah (v:=.bool false) (fun X=>aK (by decide) X) rfl ?_
 refine Rf.bY aa 2 2 rfl ?_
 refine Rf.ah (v:=.bool false) (fun X=>aK (by decide) X) rfl ?_
 refine Rf.ay aa 2 rfl ?_
 refine Rf.ah (v:=.bool true) (fun X=>aM (by decide) X) rfl ?_
 refine Rf.HY aa 0 2 rfl ?_
 exact Rf.aaa aa rfl (fun α γ w h=>⟨by rw [acS,decide_eq_true h1]<;>(cases o<;>rfl),h.ex⟩)
theorem aap (w:World) (va:Value) (r:Rat) (L M:Nat) (ha:Qn w va r L M) (o:Bool) (hL:L≤300) (hM:M≤300) (d:Nat) (n:Bool) (hd:d<5) (h1:0<r) :
  Calls Tryz.prog 76 #[.int .i64 ((d:Nat):Int),.bool n,.bool o,va] w fun e w'=>e = .returned (.bool (nR d n o r))∧Pl.Ex w w':=by
 rcases (show d=0∨d=1∨d=2∨d=3∨d=4 by omega) with rfl | rfl | rfl | rfl | rfl
 · by_cases h:1/2<r
   · exact abS w va r L M ha o hL hM n h
   · by_cases h9:r=1/2
     · exact abT w va r L M ha o hL hM n h9
     · exact abZ w va r L M ha o hL hM n (by grind)
 · by_cases h:1/2≤r
   · exact ab0 w va r L M ha o hL hM n h
   · exact ab1 w va r L M ha o hL hM n h
 · cases n
   · exact acD w va r L M ha o hL hM
   · exact ab2 w va r L M ha o hL hM
 · cases n
   · exact ab4 w va r L M ha o hL hM h1
   · exact ab3 w va r L M ha o hL hM h1
 · cases n
   · exact ab8 w va r L M ha o hL hM h1
   · exact ab7 w va r L M ha o hL hM h1
end Go.Proofs.YtgcieamfidoaoaaGreatDoor
namespace Go.Proofs.YtgcieamfidoaoaaGreatDoor
open Go.RowKit Rf Fm
set_option maxRecDepth 100000
theorem xN (w:World) (b p:Nat) (lo hi:Int) (hf:fT b p lo hi) (n9:Bool) :
  Calls Tryz.prog 40 #[.agg #[.int .i64 ((b:Nat):Int),.int .i64 ((p:Nat):Int),.int .i64 lo,.int .i64 hi],.bool n9] w fun e w'=>∃ u,e = .returned u∧Fv w' u (.fin n9 (((b^p:Nat):Int)-1) hi)∧Pl.Ex w w':=by
 have f1:=hf.p1
 have f2:=hf.ku
 have f3:=hf.l
 have f4:=hf.l1
 have f5:=hf.h1
 have hb2:=hf.b2
 have hpw:=Nat.pow_pos (n:=p) (show 0<b by omega)
 refine Rf.aA (n:=21) [.a [vI ((b:Nat):Int),vI ((p:Nat):Int),vI lo,vI hi],vB n9] [] [] Tryz.func40 rfl (by kernel_rfl) rfl rfl trivial ?_
 refine Rf.bu aa 1 0 rfl ?_
 refine Rf.aC 0 _ _ rfl (Pl.en Tryz.func36) (fun α γ w h=>dO 0 (bg _ b p p lo hi ((p:Nat):Int) hf.r (by omega) (by omega))) ?_
 refine Rf.mH (e := 57) (m:=1) [.int .u32 1] 1 (dW 1) rfl rfl rfl (fun _ _=>rfl) (fun α γ X=>by kernel_rfl) rfl (fun N w k=>Un.one (x:=1) k rfl (by omega)) ?_
 refine Rf.aC 2 (dW (Int.natAbs (((b^p:Nat):Int)-1))) (.t [.c 2 0,vT]) rfl (Pl.en Tryz.func85) (fun α γ w h=>PZ 2 (QR _ _ _ (b^p) 1 (h.r 0 rfl) (h.r 1 rfl) (Nat.le_trans (bK hf.r (by omega):Sn (b^p) 38) (by decide)) (Nat.le_trans (Sn.of (K:=1) (by decide)) (by decide)) true (decide_eq_true (by omega)) (Int.natAbs (((b^p:Nat):Int)-1)) (by omega))) ?_
 refine Rf.bY aa 0 2 rfl ?_
 refine Rf.nQ (.a [vI 1,vB n9,.c 2 0,vI hi]) rfl rfl rfl (fun _ _=>rfl) (fun α γ hp X=>Rf.NJ rfl rfl (Rf.P8 1 hi n9 (γ 2 0) (hp 2 0)) X) ?_
 refine Rf.HY aa 0 2 rfl ?_
 exact Rf.aaa aa rfl (fun α γ w h=>⟨_,rfl,Fv.mk (x:=.fin n9 (((b^p:Nat):Int)-1) hi) (h.r 2 rfl),h.ex⟩)
end Go.Proofs.YtgcieamfidoaoaaGreatDoor
namespace Go.Proofs.YtgcieamfidoaoaaGreatDoor
open Go.RowKit Rf Fm
set_option maxRecDepth 100000
theorem abL {b:Nat} {S:Rat} {x z:Int}:z≤dg b S x↔(z:Rat)≤S*bp b (-x):=Rat.le_floor_iff
theorem abM {d:Nat} {n o:Bool} {r:Rat} (h0:0≤r) (h:¬ 0<r):nR d n o r=false:=by
 obtain rfl:r=0:=by grind
 have h1:¬ (1/2:Rat)<0:=by grind
 have h2:¬ (0:Rat)=1/2:=by grind
 have h3:¬ (1/2:Rat)≤0:=by grind
 unfold nR
 simp [h1,h2,h3]
theorem abw {b p:Nat} (hb:2≤b) (hp:1≤p) {lo f x:Int} {S:Rat} (h:Fit b p lo S f) (h1:lo≤x) (h2:x≤f) (h3:¬ ((b^p:Nat):Int)≤dg b S x):x=f:=by
 refine Int.le_antisymm h2 (Int.not_lt.1 fun h4=>?_)
 rcases h.2.2 with h5 | h5
 · omega
 · obtain ⟨k,hk⟩:∃ k:Nat,f=x+k:=⟨(f-x).toNat,by omega⟩
   rw [hk,CZ hb] at h5
   have h6:(0:Int)<((b^k:Nat):Int):=by have:=Nat.pow_pos (n:=k) (show 0<b by omega);omega
   have h7:=(Int.le_ediv_iff_mul_le h6).1 h5
   have h8:b^(p-1)*b^k≥b^p:=by rw [← Nat.pow_add];exact Nat.pow_le_pow_right (by omega) (by omega)
   have h9:((b^(p-1):Nat):Int)*((b^k:Nat):Int)=((b^(p-1)*b^k:Nat):Int):=(Int.natCast_mul _ _).symm
   omega
theorem abO (w : World) (va:Value) (q:Rat) (A B:Nat) (ha:Qn w va q A B) (b p:Nat) (lo hi:Int) (hf:fT b p lo hi) (d:Nat) (hd:d<5) (hq:q<0) (J:Nat) (hJ1 : -lo<8*(J:Int)) (hJ2:∀ f,Fit b p lo (-q) f→f<8*(J:Int)) (hJ:J≤38) (hA:A+B+2*J+2≤100) (hA6:A≤60) (DJ:B≤60) :
  Calls Tryz.prog 31 #[va,.agg #[.int .i64 ((b:Nat):Int),.int .i64 ((p:Nat):Int),.int .i64 lo,.int .i64 hi],.int .i64 ((d:Nat):Int)] w fun e w'=>∃ u,e = .returned (.tuple #[u,.int .i64 0])∧Fv w' u (rd b p lo hi d q)∧Pl.Ex w w':=by
 obtain ⟨Aa,ca,Ba,ba,rfl,ua,ta,za,ya⟩:=ha
 have f1:=hf.p1
 have f2:=hf.ku
 have f3:=hf.l
 have f4:=hf.l1
 have f5:=hf.h1
 have hb2:=hf.b2
 have hif:(if q<0 then -q else q)=(-q):=if_pos hq
 have hdec:decide (q<0)=true:=decide_eq_true hq
 have hS0:0<(-q):=by grind
 have hq9:q≠0:=by grind
 obtain ⟨f,hfit⟩:=kW hb2 f1 (Rat.le_of_lt hS0) lo
 have hfJ:=hJ2 f hfit
 have hfl:=hfit.1
 refine Rf.aA (n:=126) [.a [.c 0 0,.c 0 1,.c 0 2],.a [vI ((b:Nat):Int),vI ((p:Nat):Int),vI lo,vI hi],vI ((d:Nat):Int)] [[.bool (decide (Rat.num q<0)),.slice Aa (limbs (Rat.num q).natAbs).length ca,.slice Ba (limbs (Rat.den q)).length ba]] [(0,(pI q A B).S)] Tryz.func31 rfl (by kernel_rfl) rfl rfl ⟨RS.in ⟨Aa,ca,Ba,ba,rfl,ua,ta,za,ya⟩,trivial⟩ ?_
 refine Rf.bu aa 1 0 rfl ?_
 refine Rf.aC 1 _ _ rfl (Pl.en Tryz.func14) (fun α γ w h=>aU 1 (dh _ b p lo hi hf)) ?_
 refine Rf.aV (.bool false) rfl (fun X=>aT _ X) ?_
 refine Rf.ay aa 3 rfl ?_
 refine Rf.ah (v:=.bool false) (fun X=>bM (by omega) X) rfl ?_
 refine Rf.ay aa 3 rfl ?_
 refine Rf.ah (v:=.bool false) (fun X=>bz (by omega) X) rfl ?_
 refine Rf.bY aa 2 3 rfl ?_
 refine Rf.aC 2 _ _ rfl (Pl.en Tryz.func33) (fun α γ w h=>aU 2 (iw _ _ q A B (h.r 0 rfl) (by omega))) ?_
 refine Rf.ah (v:=.bool true) (fun X=>bL (QO.2 hq) X) rfl ?_
 refine Rf.bY aa 0 3 rfl ?_
 refine Rf.aC 3 _ _ rfl (Pl.en Tryz.func33) (fun α γ w h=>aU 3 (iw _ _ q A B (h.r 0 rfl) (by omega))) ?_
 refine Rf.ah (v:=.bool false) (fun X=>aK (fun h=>hq9 (tK.1 h)) X) rfl ?_
 refine Rf.bY aa 5 3 rfl ?_
 refine Rf.aC 4 _ _ rfl (Pl.en Tryz.func38) (fun α γ w h=>iP 4 (jl _ _ q A B (h.r 0 rfl) (by omega))) ?_
 refine Rf.HY aa 1 4 rfl ?_
 refine Rf.bf ?_
 refine Rf.jJ [] [] (Rf.Uq (X:=Int) (fun x=>[(2,vI ((d:Nat):Int)),(4,.p 1 0),(6,.p 2 0),(7,vI 0),(8,vT),(9,.p 3 0),(10,vI x)]) (fun x=>[(1,23,[vI ((b:Nat):Int),vI ((p:Nat):Int),vI lo,vI hi]),(2,26,[vI 0,vF,vN,vI 0]),(3,36,[.c 4 0,.c 4 1,.c 4 2])]) (fun x=>[(4,(pI (-q) A B).S)]) (fun x=>(f-x).toNat) (fun x=>lo≤x∧x≤f) lo ⟨by omega,by omega⟩ ?_) ⟨rfl,rfl,rfl,rfl,rfl,rfl,rfl,trivial⟩ ⟨rfl,rfl,rfl,trivial⟩ ⟨rfl,trivial⟩ rfl
 intro x uK
 obtain ⟨hx1,hx2⟩:=uK
 repeat refine Rf.aO ?_
 by_cases c1:((b^p:Nat):Int)≤dg b (-q) x
 · have e1:=hfit.above hb2 f1 hx1 c1
   refine Rf.iB none fo rfl ?_
   refine Rf.aD aa 13 4 rfl ?_
   refine Rf.wz (.int .i64 (-x)) rfl rfl rfl rfl rfl rfl rfl (fun X=>qY (by omega) X) ?_
   refine Rf.ak 5 _ _ rfl (Pl.en Tryz.func53) (fun α γ w h=>iP 5 (xV _ _ (-q) A B (h.r 4 rfl) b p lo hi hf (-x) J (by omega) (by omega) (by omega) (by omega))) ?_
   refine Rf.aD aa 13 4 rfl ?_
   refine Rf.ak 6 _ _ rfl (Pl.en Tryz.func36) (fun α γ w h=>dO 6 (bg _ b p p lo hi ((p:Nat):Int) hf.r (by omega) (by omega))) ?_
   refine Rf.ak 7 _ _ rfl (Pl.en Tryz.func55) (fun α γ w h=>gz 7 (kG _ false _ (limbs (b^p)) (h.r 6 rfl) (Nat.le_trans (bK hf.r (by omega):Sn (b^p) 38) (by decide)) _ (aJ _) (((b^p):Nat):Int) rfl)) ?_
   refine Rf.ak 8 _ _ rfl (Pl.en Tryz.func54) (fun α γ w h=>iP 8 (oq _ _ (((b^p):Nat):Int) 38 (h.r 7 rfl) (Sn.sz (bK hf.r (by omega):Sn (b^p) 38)))) ?_
   refine Rf.ak 9 _ _ rfl (Pl.en Tryz.func32) (fun α γ w h=>aU 9 (IA _ _ _ ((-q)*bp b (-x)) (((((b^p):Nat):Int):Int):Rat) (A+J) (B+J) 38 1 (h.r 5 rfl) (h.r 8 rfl) (by omega) (by omega))) ?_
   refine Rf.dL (vT) rfl (fun α γ w h=>(fun X=>bS (Me.2 (abL.1 c1)) X) w) ?_
   refine Rf.aW (by kernel_rfl) ?_
   refine Rf.aP [2,4,6,7,8,9,10,38,39,40,41,42,43,44,45,46,47,48,49,50] [1,2,3] [4,5,6,7,8] rfl ?_
   refine Rf.HX aa 2 0 rfl ?_
   refine Rf.bf ?_
   refine Rf.bu aa 0 4 rfl ?_
   refine Rf.ah (v:=.int .i64 (x+1)) (fun X=>gB (by omega) X) rfl ?_
   refine Rf.HY aa 0 4 rfl ?_
   refine Rf.aZ ?_
   repeat refine Rf.aO ?_
   exact Rf.Ij _ _ _ _ _ (x+1) (by omega) ⟨by omega,by omega⟩ [] [] ⟨rfl,rfl,rfl,rfl,rfl,rfl,rfl,trivial⟩ ⟨rfl,rfl,rfl,trivial⟩ ⟨rfl,trivial⟩ rfl
 · have hxf := abw hb2 f1 hfit hx1 hx2 c1
   have hfx:Fit b p lo (-q) x:=by rw [hxf];exact hfit
   have hdg:=jw hb2 (Rat.le_of_lt hS0) x
   have hdx:=hfx.2.1
   have hsx:Sn (Int.natAbs (dg b (-q) x)) 38:=Sn.down (bK hf.r (by omega):Sn (b^p) 38) (by omega)
   obtain ⟨U1,hU1⟩:∃ B,nR d true (decide (dg b (-q) x%2=1)) (rest b (-q) x)=B:=⟨_,rfl⟩
   obtain ⟨M,hM⟩:∃ M,lY b d true (-q) x=M:=⟨_,rfl⟩
   have hM9:=BZ hb2 d true (Rat.le_of_lt hS0) hfx
   rw [hM] at hM9
   obtain ⟨hM1,hM2,-⟩:=hM9
   obtain ⟨M2,E2,hN⟩:∃ M2 E2,nK b p M x=(M2,E2):=⟨_,_,rfl⟩
   have hres:=yZ (hi:=hi) (d:=d) hb2 f1 hq9 (by rw [hif];exact hfx)
   rw [hif,hdec,hM] at hres
   refine Rf.iB none fo rfl ?_
   refine Rf.aD aa 13 4 rfl ?_
   refine Rf.wz (.int .i64 (-x)) rfl rfl rfl rfl rfl rfl rfl (fun X=>qY (by omega) X) ?_
   refine Rf.ak 5 _ _ rfl (Pl.en Tryz.func53) (fun α γ w h=>iP 5 (xV _ _ (-q) A B (h.r 4 rfl) b p lo hi hf (-x) J (by omega) (by omega) (by omega) (by omega))) ?_
   refine Rf.aD aa 13 4 rfl ?_
   refine Rf.ak 6 _ _ rfl (Pl.en Tryz.func36) (fun α γ w h=>dO 6 (bg _ b p p lo hi ((p:Nat):Int) hf.r (by omega) (by omega))) ?_
   refine Rf.ak 7 _ _ rfl (Pl.en Tryz.func55) (fun α γ w h=>gz 7 (kG _ false _ (limbs (b^p)) (h.r 6 rfl) (Nat.le_trans (bK hf.r (by omega):Sn (b^p) 38) (by decide)) _ (aJ _) (((b^p):Nat):Int) rfl)) ?_
   refine Rf.ak 8 _ _ rfl (Pl.en Tryz.func54) (fun α γ w h=>iP 8 (oq _ _ (((b^p):Nat):Int) 38 (h.r 7 rfl) (Sn.sz (bK hf.r (by omega):Sn (b^p) 38)))) ?_
   refine Rf.ak 9 _ _ rfl (Pl.en Tryz.func32) (fun α γ w h=>aU 9 (IA _ _ _ ((-q)*bp b (-x)) (((((b^p):Nat):Int):Int):Rat) (A+J) (B+J) 38 1 (h.r 5 rfl) (h.r 8 rfl) (by omega) (by omega))) ?_
   refine Rf.dL (vF) rfl (fun α γ w h=>(fun X=>gJ (fun h=>c1 (abL.2 (Me.1 h))) X) w) ?_
   refine Rf.aW (by kernel_rfl) ?_
   refine Rf.aP [2,4,6,7,8,9,10,38,39,40,41,42,43,44,45,46,47,48,49,50] [1,2,3] [4,5,6,7,8] rfl ?_
   refine Rf.HX aa 1 0 rfl ?_
   refine Rf.og ?_
   refine Rf.bu aa 0 4 rfl ?_
   refine Rf.aV (.int .i64 (-x)) rfl (fun X=>qY (by omega) X) ?_
   refine Rf.aC 10 _ _ rfl (Pl.en Tryz.func53) (fun α γ w h=>iP 10 (xV _ _ (-q) A B (h.r 4 rfl) b p lo hi hf (-x) J (by omega) (by omega) (by omega) (by omega))) ?_
   refine Rf.aC 11 (UQR (Int.natAbs (dg b (-q) x)) (rest b (-q) x) (A+J+(B+J)+2) (B+J+1)) (.t [.c 11 0,.a [.c 11 1,.c 11 2,.c 11 3]]) rfl (Pl.en Tryz.func75) (fun α γ w h=>ab9 11 (aaf _ _ ((-q)*bp b (-x)) (A+J) (B+J) (h.r 10 rfl) (A+J+(B+J)+2) (B+J+1) (by omega) (by omega) (by omega) (by omega))) ?_
   refine Rf.HY aa 0 4 rfl ?_
   refine Rf.Ub [(2,vI ((d:Nat):Int)),(4,.p 1 0),(6,.p 2 0),(7,vI 0),(8,vT),(10,vI x),(11,.c 12 0)] [(1,23,[vI ((b:Nat):Int),vI ((p:Nat):Int),vI lo,vI hi]),(2,26,[vI 0,vF,vN,vI 0])] [(12,(dW (Int.natAbs M)).S)] ?_ ?_
   · repeat refine Rf.aO ?_
     repeat refine Rf.aO ?_
     refine Rf.Ub [(2,vI ((d:Nat):Int)),(4,.p 1 0),(6,.p 2 0),(7,vI 0),(8,vT),(10,vI E2),(11,.c 13 0)] [(1,23,[vI ((b:Nat):Int),vI ((p:Nat):Int),vI lo,vI hi]),(2,26,[vI 0,vF,vN,vI 0])] [(13,(dW (Int.natAbs M2)).S)] ?_ ?_
     · repeat refine Rf.aO ?_
       by_cases hz:M2=0
       · refine Rf.bu aa 0 5 rfl ?_
         refine Rf.dD ((limbs (Int.natAbs M2)).length) Tryz.underlying24 rfl rfl rfl rfl rfl rfl (fun w f h=>Un.jX h) ?_
         refine Rf.ah (v:=.bool true) (fun X=>aM (by rw [Int.ofNat_eq_zero,jQ];omega) X) rfl ?_
         refine Rf.bY aa 1 5 rfl ?_
         refine Rf.gU (.a [vI 0,vT,vN,vI 0]) rfl rfl rfl (fun _ _=>rfl) (fun α γ X=>by kernel_rfl) ?_
         refine Rf.HY aa 0 5 rfl ?_
         exact Rf.aaa aa rfl (fun α γ w h=>⟨_,rfl,by rw [hres,aa0 hN hz];exact Fv.mk (x:=.zero true) (iA _),h.ex⟩)
       · by_cases hl:E2≤hi
         · refine Rf.bu aa 0 5 rfl ?_
           refine Rf.dD ((limbs (Int.natAbs M2)).length) Tryz.underlying24 rfl rfl rfl rfl rfl rfl (fun w f h=>Un.jX h) ?_
           refine Rf.ah (v:=.bool false) (fun X=>aK (fun h=>hz (by rw [Int.ofNat_eq_zero,jQ] at h;omega)) X) rfl ?_
           refine Rf.bY aa 2 5 rfl ?_
           refine Rf.ah (v:=.bool true) (fun X=>cO hl X) rfl ?_
           refine Rf.bY aa 1 5 rfl ?_
           refine Rf.nQ (.a [vI 1,vT,.c 13 0,vI E2]) rfl rfl rfl (fun _ _=>rfl) (fun α γ hp X=>Rf.NJ rfl rfl (Rf.P8 1 E2 true (γ 13 0) (hp 13 0)) X) ?_
           refine Rf.HY aa 0 5 rfl ?_
           exact Rf.aaa aa rfl (fun α γ w h=>⟨_,rfl,by rw [hres,aa1 hN hz hl];exact Fv.mk (x:=.fin true M2 E2) (h.r 13 rfl),h.ex⟩)
         · refine Rf.bu aa 0 5 rfl ?_
           refine Rf.dD ((limbs (Int.natAbs M2)).length) Tryz.underlying24 rfl rfl rfl rfl rfl rfl (fun w f h=>Un.jX h) ?_
           refine Rf.ah (v:=.bool false) (fun X=>aK (fun h=>hz (by rw [Int.ofNat_eq_zero,jQ] at h;omega)) X) rfl ?_
           refine Rf.bY aa 2 5 rfl ?_
           refine Rf.ah (v:=.bool false) (fun X=>Ii hl X) rfl ?_
           refine Rf.bY aa 2 5 rfl ?_
           refine Rf.jZ (p:=((d:Nat):Int)=2) (l8 _ _) rfl (fun c3=>?_) (fun c3=>?_)
           · refine Rf.bY aa 1 5 rfl ?_
             refine Rf.aC 14 _ (.a [vI 1,vT,.c 14 0,vI hi]) rfl (Pl.en Tryz.func40) (fun α γ w h=>fC 14 (xN _ b p lo hi hf true)) ?_
             refine Rf.HY aa 0 5 rfl ?_
             exact Rf.aaa aa rfl (fun α γ w h=>⟨_,rfl,by rw [hres,aa3 hN hz hl (by rcases (show d=0∨d=1∨d=2∨d=3∨d=4 by omega) with rfl | rfl | rfl | rfl | rfl<;>first | rfl | (exfalso;omega))];exact Fv.mk (x:=.fin true (((b^p:Nat):Int)-1) hi) (h.r 14 rfl),h.ex⟩)
           · refine Rf.ay aa 5 rfl ?_
             refine Rf.jZ (p:=((d:Nat):Int)=3) (l8 _ _) rfl (fun c4=>?_) (fun c4=>?_)
             · refine Rf.bY aa 1 5 rfl ?_
               refine Rf.aC 14 _ (.a [vI 1,vT,.c 14 0,vI hi]) rfl (Pl.en Tryz.func40) (fun α γ w h=>fC 14 (xN _ b p lo hi hf true)) ?_
               refine Rf.HY aa 0 5 rfl ?_
               exact Rf.aaa aa rfl (fun α γ w h=>⟨_,rfl,by rw [hres,aa3 hN hz hl (by rcases (show d=0∨d=1∨d=2∨d=3∨d=4 by omega) with rfl | rfl | rfl | rfl | rfl<;>first | rfl | (exfalso;omega))];exact Fv.mk (x:=.fin true (((b^p:Nat):Int)-1) hi) (h.r 14 rfl),h.ex⟩)
             · refine Rf.ay aa 5 rfl ?_
               refine Rf.jZ (p:=((d:Nat):Int)=4) (l8 _ _) rfl (fun c5=>?_) (fun c5=>?_)
               · refine Rf.ay aa 5 rfl ?_
                 refine Rf.aV (.bool false) rfl (fun X=>aT _ X) ?_
                 refine Rf.bY aa 2 5 rfl ?_
                 refine Rf.gU (.a [vI 2,vT,vN,vI 0]) rfl rfl rfl (fun _ _=>rfl) (fun α γ X=>by kernel_rfl) ?_
                 refine Rf.HY aa 0 5 rfl ?_
                 exact Rf.aaa aa rfl (fun α γ w h=>⟨_,rfl,by rw [hres,aa2 hN hz hl (by rcases (show d=0∨d=1∨d=2∨d=3∨d=4 by omega) with rfl | rfl | rfl | rfl | rfl<;>first | rfl | (exfalso;omega))];exact Fv.mk (x:=.inf true) (iA _),h.ex⟩)
               · refine Rf.bY aa 2 5 rfl ?_
                 refine Rf.gU (.a [vI 2,vT,vN,vI 0]) rfl rfl rfl (fun _ _=>rfl) (fun α γ X=>by kernel_rfl) ?_
                 refine Rf.HY aa 0 5 rfl ?_
                 exact Rf.aaa aa rfl (fun α γ w h=>⟨_,rfl,by rw [hres,aa2 hN hz hl (by rcases (show d=0∨d=1∨d=2∨d=3∨d=4 by omega) with rfl | rfl | rfl | rfl | rfl<;>first | rfl | (exfalso;omega))];exact Fv.mk (x:=.inf true) (iA _),h.ex⟩)
     · intro hc2
       by_cases hP:M=((b^p:Nat):Int)
       · have hN2:=(if_pos hP).symm.trans hN
         obtain ⟨hN3,hN4⟩:=Prod.mk.inj hN2
         refine Rf.bu aa 0 5 rfl ?_
         refine Rf.aC 14 _ _ rfl (Pl.en Tryz.func36) (fun α γ w h=>dO 14 (bg _ b p p lo hi ((p:Nat):Int) hf.r (by omega) (by omega))) ?_
         refine Rf.aC 15 _ _ rfl (Pl.en Tryz.func47) (fun α γ w h=>aU 15 (jk _ _ _ (Int.natAbs M) (b^p) (h.r 12 rfl) (h.r 14 rfl) (Nat.le_trans (Sn.down (bK hf.r (by omega):Sn (b^p) 38) (by omega)) (by decide)) (Nat.le_trans (bK hf.r (by omega):Sn (b^p) 38) (by decide)) _ rfl)) ?_
         refine Rf.ah (v:=.bool true) (fun X=>aM (xC.2 (by omega)) X) rfl ?_
         refine Rf.bY aa 1 5 rfl ?_
         refine Rf.ah (v:=.int .i64 (((p:Nat):Int)-1)) (fun X=>eH (by omega) X) rfl ?_
         refine Rf.aC 16 _ _ rfl (Pl.en Tryz.func36) (fun α γ w h=>dO 16 (bg _ b p (p-1) lo hi (((p:Nat):Int)-1) hf.r (by omega) (by omega))) ?_
         refine Rf.bY aa 0 5 rfl ?_
         refine Rf.ah (v:=.int .i64 (x+1)) (fun X=>gB (by omega) X) rfl ?_
         refine Rf.HY0 aa 0 5 rfl ?_
         refine Rf.Fg 16 (dW (Int.natAbs M2)) rfl (fun w f h=>by rw [← hN3];exact h) ?_
         subst hN4
         exact Rf.jJ [] [(13,16)] hc2 ⟨rfl,rfl,rfl,rfl,rfl,rfl,rfl,trivial⟩ ⟨rfl,rfl,trivial⟩ ⟨rfl,trivial⟩ rfl
       · have hN2:=(if_neg hP).symm.trans hN
         obtain ⟨hN3,hN4⟩:=Prod.mk.inj hN2
         refine Rf.bu aa 0 5 rfl ?_
         refine Rf.aC 14 _ _ rfl (Pl.en Tryz.func36) (fun α γ w h=>dO 14 (bg _ b p p lo hi ((p:Nat):Int) hf.r (by omega) (by omega))) ?_
         refine Rf.aC 15 _ _ rfl (Pl.en Tryz.func47) (fun α γ w h=>aU 15 (jk _ _ _ (Int.natAbs M) (b^p) (h.r 12 rfl) (h.r 14 rfl) (Nat.le_trans (Sn.down (bK hf.r (by omega):Sn (b^p) 38) (by omega)) (by decide)) (Nat.le_trans (bK hf.r (by omega):Sn (b^p) 38) (by decide)) _ rfl)) ?_
         refine Rf.ah (v:=.bool false) (fun X=>aK (fun h=>hP (by have h9:=xC.1 h;omega)) X) rfl ?_
         refine Rf.HY0 aa 2 0 rfl ?_
         refine Rf.Fg 12 (dW (Int.natAbs M2)) rfl (fun w f h=>by rw [← hN3];exact h) ?_
         subst hN4
         exact Rf.jJ [] [(13,12)] hc2 ⟨rfl,rfl,rfl,rfl,rfl,rfl,rfl,trivial⟩ ⟨rfl,rfl,trivial⟩ ⟨rfl,trivial⟩ rfl
   · intro hc1
     by_cases hr:0<rest b (-q) x
     · refine Rf.iB none fo rfl ?_
       refine Rf.aD aa 12 5 rfl ?_
       refine Rf.ak 13 _ _ rfl (Pl.en Tryz.func33) (fun α γ w h=>aU 13 (iw _ _ (rest b (-q) x) (A+J+(B+J)+2) (B+J+1) (h.r 11 rfl).2 (by omega))) ?_
       refine Rf.dL (vT) rfl (fun α γ w h=>(fun X=>jR (Ce.2 hr) X) w) ?_
       refine Rf.aD aa 12 5 rfl ?_
       refine Rf.ak 14 _ _ rfl (Pl.en Tryz.func37) (fun α γ w h=>aU 14 (XT _ _ (Int.natAbs (dg b (-q) x)) 0 (h.r 11 rfl).1 (by omega) (by omega) _ rfl)) ?_
       refine Rf.Be (vB (decide (dg b (-q) x%2=1))) rfl rfl rfl rfl rfl rfl rfl rfl rfl rfl (fun α γ w h=>(fun X=>Wy hdg rfl X) w) ?_
       refine Rf.aD aa 12 5 rfl ?_
       refine Rf.ak 15 _ _ rfl (Pl.en Tryz.func76) (fun α γ w h=>aU 15 ((by have h9:=aap w _ (rest b (-q) x) (A+J+(B+J)+2) (B+J+1) (h.r 11 rfl).2 (decide (dg b (-q) x%2=1)) (by omega) (by omega) d true hd hr;rw [hU1] at h9;exact h9))) ?_
       refine Rf.aD aa 12 5 rfl ?_
       refine Rf.aW (by kernel_rfl) ?_
       refine Rf.aP [2,4,6,7,8,10,11,73] [1,2] [11] rfl ?_
       cases U1
       · refine Rf.HX aa 1 0 rfl ?_
         have hM3:=aaZ hU1 hM
         refine Rf.HX0 aa 1 0 rfl ?_
         refine Rf.Fg 11 (dW (Int.natAbs M)) rfl (fun w f h=>by rw [hM3];exact h.1) ?_
         exact Rf.jJ [] [(12,11)] hc1 ⟨rfl,rfl,rfl,rfl,rfl,rfl,rfl,trivial⟩ ⟨rfl,rfl,trivial⟩ ⟨rfl,trivial⟩ rfl
       · refine Rf.HX aa 1 0 rfl ?_
         have hM3:=aaY hU1 hM
         refine Rf.bu aa 0 5 rfl ?_
         refine Rf.mH (e := 57) (m:=1) [.int .u32 1] 16 (dW 1) rfl rfl rfl (fun _ _=>rfl) (fun α γ X=>by kernel_rfl) rfl (fun N w k=>Un.one (x:=1) k rfl (by omega)) ?_
         refine Rf.aC 17 _ _ rfl (Pl.en Tryz.func77) (fun α γ w h=>dO 17 (Y7 _ _ _ (Int.natAbs (dg b (-q) x)) 1 (h.r 11 rfl).1 (h.r 16 rfl) (Nat.le_trans hsx (by decide)) (Nat.le_trans (Sn.of (K:=1) (by decide)) (by decide)) (Int.natAbs M) (by omega))) ?_
         refine Rf.HY0 aa 0 5 rfl ?_
         exact Rf.jJ [] [(12,17)] hc1 ⟨rfl,rfl,rfl,rfl,rfl,rfl,rfl,trivial⟩ ⟨rfl,rfl,trivial⟩ ⟨rfl,trivial⟩ rfl
     · refine Rf.iB none fo rfl ?_
       refine Rf.aD aa 12 5 rfl ?_
       refine Rf.ak 13 _ _ rfl (Pl.en Tryz.func33) (fun α γ w h=>aU 13 (iw _ _ (rest b (-q) x) (A+J+(B+J)+2) (B+J+1) (h.r 11 rfl).2 (by omega))) ?_
       refine Rf.dL (vF) rfl (fun α γ w h=>(fun X=>bz (fun h=>hr (Ce.1 h)) X) w) ?_
       refine Rf.aD aa 12 5 rfl ?_
       refine Rf.aW (by kernel_rfl) ?_
       refine Rf.aP [2,4,6,7,8,10,11,73] [1,2] [11] rfl ?_
       refine Rf.HX aa 1 0 rfl ?_
       have hM3:=aaZ (abM (Bl (-q) x).1 hr) hM
       refine Rf.HX0 aa 1 0 rfl ?_
       refine Rf.Fg 11 (dW (Int.natAbs M)) rfl (fun w f h=>by rw [hM3];exact h.1) ?_
       exact Rf.jJ [] [(12,11)] hc1 ⟨rfl,rfl,rfl,rfl,rfl,rfl,rfl,trivial⟩ ⟨rfl,rfl,trivial⟩ ⟨rfl,trivial⟩ rfl
theorem abP (w : World) (va:Value) (q:Rat) (A B:Nat) (ha:Qn w va q A B) (b p:Nat) (lo hi:Int) (hf:fT b p lo hi) (d:Nat) (hd:d<5) (hq:0<q) (J:Nat) (hJ1 : -lo<8*(J:Int)) (hJ2:∀ f,Fit b p lo q f→f<8*(J:Int)) (hJ:J≤38) (hA:A+B+2*J+2≤100) (hA6:A≤60) (DJ:B≤60) :
  Calls Tryz.prog 31 #[va,.agg #[.int .i64 ((b:Nat):Int),.int .i64 ((p:Nat):Int),.int .i64 lo,.int .i64 hi],.int .i64 ((d:Nat):Int)] w fun e w'=>∃ u,e = .returned (.tuple #[u,.int .i64 0])∧Fv w' u (rd b p lo hi d q)∧Pl.Ex w w':=by
 obtain ⟨Aa,ca,Ba,ba,rfl,ua,ta,za,ya⟩:=ha
 have f1:=hf.p1
 have f2:=hf.ku
 have f3:=hf.l
 have f4:=hf.l1
 have f5:=hf.h1
 have hb2:=hf.b2
 have hif:(if q<0 then -q else q)=q:=if_neg (by grind)
 have hdec:decide (q<0)=false:=decide_eq_false (by grind)
 have hS0:0<q:=by grind
 have hq9:q≠0:=by grind
 obtain ⟨f,hfit⟩:=kW hb2 f1 (Rat.le_of_lt hS0) lo
 have hfJ:=hJ2 f hfit
 have hfl:=hfit.1
 refine Rf.aA (n:=126) [.a [.c 0 0,.c 0 1,.c 0 2],.a [vI ((b:Nat):Int),vI ((p:Nat):Int),vI lo,vI hi],vI ((d:Nat):Int)] [[.bool (decide (Rat.num q<0)),.slice Aa (limbs (Rat.num q).natAbs).length ca,.slice Ba (limbs (Rat.den q)).length ba]] [(0,(pI q A B).S)] Tryz.func31 rfl (by kernel_rfl) rfl rfl ⟨RS.in ⟨Aa,ca,Ba,ba,rfl,ua,ta,za,ya⟩,trivial⟩ ?_
 refine Rf.bu aa 1 0 rfl ?_
 refine Rf.aC 1 _ _ rfl (Pl.en Tryz.func14) (fun α γ w h=>aU 1 (dh _ b p lo hi hf)) ?_
 refine Rf.aV (.bool false) rfl (fun X=>aT _ X) ?_
 refine Rf.ay aa 3 rfl ?_
 refine Rf.ah (v:=.bool false) (fun X=>bM (by omega) X) rfl ?_
 refine Rf.ay aa 3 rfl ?_
 refine Rf.ah (v:=.bool false) (fun X=>bz (by omega) X) rfl ?_
 refine Rf.bY aa 2 3 rfl ?_
 refine Rf.aC 2 _ _ rfl (Pl.en Tryz.func33) (fun α γ w h=>aU 2 (iw _ _ q A B (h.r 0 rfl) (by omega))) ?_
 refine Rf.ah (v:=.bool false) (fun X=>bM (fun h=>by have h9:=QO.1 h;grind) X) rfl ?_
 refine Rf.bY aa 0 3 rfl ?_
 refine Rf.aC 3 _ _ rfl (Pl.en Tryz.func33) (fun α γ w h=>aU 3 (iw _ _ q A B (h.r 0 rfl) (by omega))) ?_
 refine Rf.ah (v:=.bool false) (fun X=>aK (fun h=>hq9 (tK.1 h)) X) rfl ?_
 refine Rf.HY aa 7 3 rfl ?_
 refine Rf.bf ?_
 refine Rf.jJ [] [] (Rf.Uq (X:=Int) (fun x=>[(2,vI ((d:Nat):Int)),(4,.p 1 0),(6,.p 2 0),(7,vI 0),(8,vF),(9,.p 3 0),(10,vI x)]) (fun x=>[(1,23,[vI ((b:Nat):Int),vI ((p:Nat):Int),vI lo,vI hi]),(2,26,[vI 0,vF,vN,vI 0]),(3,36,[.c 0 0,.c 0 1,.c 0 2])]) (fun x=>[(0,(pI q A B).S)]) (fun x=>(f-x).toNat) (fun x=>lo≤x∧x≤f) lo ⟨by omega,by omega⟩ ?_) ⟨rfl,rfl,rfl,rfl,rfl,rfl,rfl,trivial⟩ ⟨rfl,rfl,rfl,trivial⟩ ⟨rfl,trivial⟩ rfl
 intro x uK
 obtain ⟨hx1,hx2⟩:=uK
 repeat refine Rf.aO ?_
 by_cases c1:((b^p:Nat):Int)≤dg b q x
 · have e1:=hfit.above hb2 f1 hx1 c1
   refine Rf.iB none fo rfl ?_
   refine Rf.aD aa 13 4 rfl ?_
   refine Rf.wz (.int .i64 (-x)) rfl rfl rfl rfl rfl rfl rfl (fun X=>qY (by omega) X) ?_
   refine Rf.ak 4 _ _ rfl (Pl.en Tryz.func53) (fun α γ w h=>iP 4 (xV _ _ q A B (h.r 0 rfl) b p lo hi hf (-x) J (by omega) (by omega) (by omega) (by omega))) ?_
   refine Rf.aD aa 13 4 rfl ?_
   refine Rf.ak 5 _ _ rfl (Pl.en Tryz.func36) (fun α γ w h=>dO 5 (bg _ b p p lo hi ((p:Nat):Int) hf.r (by omega) (by omega))) ?_
   refine Rf.ak 6 _ _ rfl (Pl.en Tryz.func55) (fun α γ w h=>gz 6 (kG _ false _ (limbs (b^p)) (h.r 5 rfl) (Nat.le_trans (bK hf.r (by omega):Sn (b^p) 38) (by decide)) _ (aJ _) (((b^p):Nat):Int) rfl)) ?_
   refine Rf.ak 7 _ _ rfl (Pl.en Tryz.func54) (fun α γ w h=>iP 7 (oq _ _ (((b^p):Nat):Int) 38 (h.r 6 rfl) (Sn.sz (bK hf.r (by omega):Sn (b^p) 38)))) ?_
   refine Rf.ak 8 _ _ rfl (Pl.en Tryz.func32) (fun α γ w h=>aU 8 (IA _ _ _ (q*bp b (-x)) (((((b^p):Nat):Int):Int):Rat) (A+J) (B+J) 38 1 (h.r 4 rfl) (h.r 7 rfl) (by omega) (by omega))) ?_
   refine Rf.dL (vT) rfl (fun α γ w h=>(fun X=>bS (Me.2 (abL.1 c1)) X) w) ?_
   refine Rf.aW (by kernel_rfl) ?_
   refine Rf.aP [2,4,6,7,8,9,10,38,39,40,41,42,43,44,45,46,47,48,49,50] [1,2,3] [0,4,5,6,7] rfl ?_
   refine Rf.HX aa 2 0 rfl ?_
   refine Rf.bf ?_
   refine Rf.bu aa 0 4 rfl ?_
   refine Rf.ah (v:=.int .i64 (x+1)) (fun X=>gB (by omega) X) rfl ?_
   refine Rf.HY aa 0 4 rfl ?_
   refine Rf.aZ ?_
   repeat refine Rf.aO ?_
   exact Rf.Ij _ _ _ _ _ (x+1) (by omega) ⟨by omega,by omega⟩ [] [] ⟨rfl,rfl,rfl,rfl,rfl,rfl,rfl,trivial⟩ ⟨rfl,rfl,rfl,trivial⟩ ⟨rfl,trivial⟩ rfl
 · have hxf := abw hb2 f1 hfit hx1 hx2 c1
   have hfx:Fit b p lo q x:=by rw [hxf];exact hfit
   have hdg:=jw hb2 (Rat.le_of_lt hS0) x
   have hdx:=hfx.2.1
   have hsx:Sn (Int.natAbs (dg b q x)) 38:=Sn.down (bK hf.r (by omega):Sn (b^p) 38) (by omega)
   obtain ⟨U1,hU1⟩:∃ B,nR d false (decide (dg b q x%2=1)) (rest b q x)=B:=⟨_,rfl⟩
   obtain ⟨M,hM⟩:∃ M,lY b d false q x=M:=⟨_,rfl⟩
   have hM9:=BZ hb2 d false (Rat.le_of_lt hS0) hfx
   rw [hM] at hM9
   obtain ⟨hM1,hM2,-⟩:=hM9
   obtain ⟨M2,E2,hN⟩:∃ M2 E2,nK b p M x=(M2,E2):=⟨_,_,rfl⟩
   have hres:=yZ (hi:=hi) (d:=d) hb2 f1 hq9 (by rw [hif];exact hfx)
   rw [hif,hdec,hM] at hres
   refine Rf.iB none fo rfl ?_
   refine Rf.aD aa 13 4 rfl ?_
   refine Rf.wz (.int .i64 (-x)) rfl rfl rfl rfl rfl rfl rfl (fun X=>qY (by omega) X) ?_
   refine Rf.ak 4 _ _ rfl (Pl.en Tryz.func53) (fun α γ w h=>iP 4 (xV _ _ q A B (h.r 0 rfl) b p lo hi hf (-x) J (by omega) (by omega) (by omega) (by omega))) ?_
   refine Rf.aD aa 13 4 rfl ?_
   refine Rf.ak 5 _ _ rfl (Pl.en Tryz.func36) (fun α γ w h=>dO 5 (bg _ b p p lo hi ((p:Nat):Int) hf.r (by omega) (by omega))) ?_
   refine Rf.ak 6 _ _ rfl (Pl.en Tryz.func55) (fun α γ w h=>gz 6 (kG _ false _ (limbs (b^p)) (h.r 5 rfl) (Nat.le_trans (bK hf.r (by omega):Sn (b^p) 38) (by decide)) _ (aJ _) (((b^p):Nat):Int) rfl)) ?_
   refine Rf.ak 7 _ _ rfl (Pl.en Tryz.func54) (fun α γ w h=>iP 7 (oq _ _ (((b^p):Nat):Int) 38 (h.r 6 rfl) (Sn.sz (bK hf.r (by omega):Sn (b^p) 38)))) ?_
   refine Rf.ak 8 _ _ rfl (Pl.en Tryz.func32) (fun α γ w h=>aU 8 (IA _ _ _ (q*bp b (-x)) (((((b^p):Nat):Int):Int):Rat) (A+J) (B+J) 38 1 (h.r 4 rfl) (h.r 7 rfl) (by omega) (by omega))) ?_
   refine Rf.dL (vF) rfl (fun α γ w h=>(fun X=>gJ (fun h=>c1 (abL.2 (Me.1 h))) X) w) ?_
   refine Rf.aW (by kernel_rfl) ?_
   refine Rf.aP [2,4,6,7,8,9,10,38,39,40,41,42,43,44,45,46,47,48,49,50] [1,2,3] [0,4,5,6,7] rfl ?_
   refine Rf.HX aa 1 0 rfl ?_
   refine Rf.og ?_
   refine Rf.bu aa 0 4 rfl ?_
   refine Rf.aV (.int .i64 (-x)) rfl (fun X=>qY (by omega) X) ?_
   refine Rf.aC 9 _ _ rfl (Pl.en Tryz.func53) (fun α γ w h=>iP 9 (xV _ _ q A B (h.r 0 rfl) b p lo hi hf (-x) J (by omega) (by omega) (by omega) (by omega))) ?_
   refine Rf.aC 10 (UQR (Int.natAbs (dg b q x)) (rest b q x) (A+J+(B+J)+2) (B+J+1)) (.t [.c 10 0,.a [.c 10 1,.c 10 2,.c 10 3]]) rfl (Pl.en Tryz.func75) (fun α γ w h=>ab9 10 (aaf _ _ (q*bp b (-x)) (A+J) (B+J) (h.r 9 rfl) (A+J+(B+J)+2) (B+J+1) (by omega) (by omega) (by omega) (by omega))) ?_
   refine Rf.HY aa 0 4 rfl ?_
   refine Rf.Ub [(2,vI ((d:Nat):Int)),(4,.p 1 0),(6,.p 2 0),(7,vI 0),(8,vF),(10,vI x),(11,.c 11 0)] [(1,23,[vI ((b:Nat):Int),vI ((p:Nat):Int),vI lo,vI hi]),(2,26,[vI 0,vF,vN,vI 0])] [(11,(dW (Int.natAbs M)).S)] ?_ ?_
   · repeat refine Rf.aO ?_
     repeat refine Rf.aO ?_
     refine Rf.Ub [(2,vI ((d:Nat):Int)),(4,.p 1 0),(6,.p 2 0),(7,vI 0),(8,vF),(10,vI E2),(11,.c 12 0)] [(1,23,[vI ((b:Nat):Int),vI ((p:Nat):Int),vI lo,vI hi]),(2,26,[vI 0,vF,vN,vI 0])] [(12,(dW (Int.natAbs M2)).S)] ?_ ?_
     · repeat refine Rf.aO ?_
       by_cases hz:M2=0
       · refine Rf.bu aa 0 5 rfl ?_
         refine Rf.dD ((limbs (Int.natAbs M2)).length) Tryz.underlying24 rfl rfl rfl rfl rfl rfl (fun w f h=>Un.jX h) ?_
         refine Rf.ah (v:=.bool true) (fun X=>aM (by rw [Int.ofNat_eq_zero,jQ];omega) X) rfl ?_
         refine Rf.bY aa 1 5 rfl ?_
         refine Rf.gU (.a [vI 0,vF,vN,vI 0]) rfl rfl rfl (fun _ _=>rfl) (fun α γ X=>by kernel_rfl) ?_
         refine Rf.HY aa 0 5 rfl ?_
         exact Rf.aaa aa rfl (fun α γ w h=>⟨_,rfl,by rw [hres,aa0 hN hz];exact Fv.mk (x:=.zero false) (iA _),h.ex⟩)
       · by_cases hl:E2≤hi
         · refine Rf.bu aa 0 5 rfl ?_
           refine Rf.dD ((limbs (Int.natAbs M2)).length) Tryz.underlying24 rfl rfl rfl rfl rfl rfl (fun w f h=>Un.jX h) ?_
           refine Rf.ah (v:=.bool false) (fun X=>aK (fun h=>hz (by rw [Int.ofNat_eq_zero,jQ] at h;omega)) X) rfl ?_
           refine Rf.bY aa 2 5 rfl ?_
           refine Rf.ah (v:=.bool true) (fun X=>cO hl X) rfl ?_
           refine Rf.bY aa 1 5 rfl ?_
           refine Rf.nQ (.a [vI 1,vF,.c 12 0,vI E2]) rfl rfl rfl (fun _ _=>rfl) (fun α γ hp X=>Rf.NJ rfl rfl (Rf.P8 1 E2 false (γ 12 0) (hp 12 0)) X) ?_
           refine Rf.HY aa 0 5 rfl ?_
           exact Rf.aaa aa rfl (fun α γ w h=>⟨_,rfl,by rw [hres,aa1 hN hz hl];exact Fv.mk (x:=.fin false M2 E2) (h.r 12 rfl),h.ex⟩)
         · refine Rf.bu aa 0 5 rfl ?_
           refine Rf.dD ((limbs (Int.natAbs M2)).length) Tryz.underlying24 rfl rfl rfl rfl rfl rfl (fun w f h=>Un.jX h) ?_
           refine Rf.ah (v:=.bool false) (fun X=>aK (fun h=>hz (by rw [Int.ofNat_eq_zero,jQ] at h;omega)) X) rfl ?_
           refine Rf.bY aa 2 5 rfl ?_
           refine Rf.ah (v:=.bool false) (fun X=>Ii hl X) rfl ?_
           refine Rf.bY aa 2 5 rfl ?_
           refine Rf.jZ (p:=((d:Nat):Int)=2) (l8 _ _) rfl (fun c3=>?_) (fun c3=>?_)
           · refine Rf.bY aa 1 5 rfl ?_
             refine Rf.aC 13 _ (.a [vI 1,vF,.c 13 0,vI hi]) rfl (Pl.en Tryz.func40) (fun α γ w h=>fC 13 (xN _ b p lo hi hf false)) ?_
             refine Rf.HY aa 0 5 rfl ?_
             exact Rf.aaa aa rfl (fun α γ w h=>⟨_,rfl,by rw [hres,aa3 hN hz hl (by rcases (show d=0∨d=1∨d=2∨d=3∨d=4 by omega) with rfl | rfl | rfl | rfl | rfl<;>first | rfl | (exfalso;omega))];exact Fv.mk (x:=.fin false (((b^p:Nat):Int)-1) hi) (h.r 13 rfl),h.ex⟩)
           · refine Rf.ay aa 5 rfl ?_
             refine Rf.jZ (p:=((d:Nat):Int)=3) (l8 _ _) rfl (fun c4=>?_) (fun c4=>?_)
             · refine Rf.ay aa 5 rfl ?_
               refine Rf.jZ (p:=((d:Nat):Int)=4) (l8 _ _) rfl (fun c5=>?_) (fun c5=>?_)
               · refine Rf.ay aa 5 rfl ?_
                 refine Rf.aV (.bool true) rfl (fun X=>aT _ X) ?_
                 refine Rf.bY aa 1 5 rfl ?_
                 refine Rf.aC 13 _ (.a [vI 1,vF,.c 13 0,vI hi]) rfl (Pl.en Tryz.func40) (fun α γ w h=>fC 13 (xN _ b p lo hi hf false)) ?_
                 refine Rf.HY aa 0 5 rfl ?_
                 exact Rf.aaa aa rfl (fun α γ w h=>⟨_,rfl,by rw [hres,aa3 hN hz hl (by rcases (show d=0∨d=1∨d=2∨d=3∨d=4 by omega) with rfl | rfl | rfl | rfl | rfl<;>first | rfl | (exfalso;omega))];exact Fv.mk (x:=.fin false (((b^p:Nat):Int)-1) hi) (h.r 13 rfl),h.ex⟩)
               · refine Rf.bY aa 2 5 rfl ?_
                 refine Rf.gU (.a [vI 2,vF,vN,vI 0]) rfl rfl rfl (fun _ _=>rfl) (fun α γ X=>by kernel_rfl) ?_
                 refine Rf.HY aa 0 5 rfl ?_
                 exact Rf.aaa aa rfl (fun α γ w h=>⟨_,rfl,by rw [hres,aa2 hN hz hl (by rcases (show d=0∨d=1∨d=2∨d=3∨d=4 by omega) with rfl | rfl | rfl | rfl | rfl<;>first | rfl | (exfalso;omega))];exact Fv.mk (x:=.inf false) (iA _),h.ex⟩)
             · refine Rf.ay aa 5 rfl ?_
               refine Rf.jZ (p:=((d:Nat):Int)=4) (l8 _ _) rfl (fun c5=>?_) (fun c5=>?_)
               · refine Rf.ay aa 5 rfl ?_
                 refine Rf.aV (.bool true) rfl (fun X=>aT _ X) ?_
                 refine Rf.bY aa 1 5 rfl ?_
                 refine Rf.aC 13 _ (.a [vI 1,vF,.c 13 0,vI hi]) rfl (Pl.en Tryz.func40) (fun α γ w h=>fC 13 (xN _ b p lo hi hf false)) ?_
                 refine Rf.HY aa 0 5 rfl ?_
                 exact Rf.aaa aa rfl (fun α γ w h=>⟨_,rfl,by rw [hres,aa3 hN hz hl (by rcases (show d=0∨d=1∨d=2∨d=3∨d=4 by omega) with rfl | rfl | rfl | rfl | rfl<;>first | rfl | (exfalso;omega))];exact Fv.mk (x:=.fin false (((b^p:Nat):Int)-1) hi) (h.r 13 rfl),h.ex⟩)
               · refine Rf.bY aa 2 5 rfl ?_
                 refine Rf.gU (.a [vI 2,vF,vN,vI 0]) rfl rfl rfl (fun _ _=>rfl) (fun α γ X=>by kernel_rfl) ?_
                 refine Rf.HY aa 0 5 rfl ?_
                 exact Rf.aaa aa rfl (fun α γ w h=>⟨_,rfl,by rw [hres,aa2 hN hz hl (by rcases (show d=0∨d=1∨d=2∨d=3∨d=4 by omega) with rfl | rfl | rfl | rfl | rfl<;>first | rfl | (exfalso;omega))];exact Fv.mk (x:=.inf false) (iA _),h.ex⟩)
     · intro hc2
       by_cases hP:M=((b^p:Nat):Int)
       · have hN2:=(if_pos hP).symm.trans hN
         obtain ⟨hN3,hN4⟩:=Prod.mk.inj hN2
         refine Rf.bu aa 0 5 rfl ?_
         refine Rf.aC 13 _ _ rfl (Pl.en Tryz.func36) (fun α γ w h=>dO 13 (bg _ b p p lo hi ((p:Nat):Int) hf.r (by omega) (by omega))) ?_
         refine Rf.aC 14 _ _ rfl (Pl.en Tryz.func47) (fun α γ w h=>aU 14 (jk _ _ _ (Int.natAbs M) (b^p) (h.r 11 rfl) (h.r 13 rfl) (Nat.le_trans (Sn.down (bK hf.r (by omega):Sn (b^p) 38) (by omega)) (by decide)) (Nat.le_trans (bK hf.r (by omega):Sn (b^p) 38) (by decide)) _ rfl)) ?_
         refine Rf.ah (v:=.bool true) (fun X=>aM (xC.2 (by omega)) X) rfl ?_
         refine Rf.bY aa 1 5 rfl ?_
         refine Rf.ah (v:=.int .i64 (((p:Nat):Int)-1)) (fun X=>eH (by omega) X) rfl ?_
         refine Rf.aC 15 _ _ rfl (Pl.en Tryz.func36) (fun α γ w h=>dO 15 (bg _ b p (p-1) lo hi (((p:Nat):Int)-1) hf.r (by omega) (by omega))) ?_
         refine Rf.bY aa 0 5 rfl ?_
         refine Rf.ah (v:=.int .i64 (x+1)) (fun X=>gB (by omega) X) rfl ?_
         refine Rf.HY0 aa 0 5 rfl ?_
         refine Rf.Fg 15 (dW (Int.natAbs M2)) rfl (fun w f h=>by rw [← hN3];exact h) ?_
         subst hN4
         exact Rf.jJ [] [(12,15)] hc2 ⟨rfl,rfl,rfl,rfl,rfl,rfl,rfl,trivial⟩ ⟨rfl,rfl,trivial⟩ ⟨rfl,trivial⟩ rfl
       · have hN2:=(if_neg hP).symm.trans hN
         obtain ⟨hN3,hN4⟩:=Prod.mk.inj hN2
         refine Rf.bu aa 0 5 rfl ?_
         refine Rf.aC 13 _ _ rfl (Pl.en Tryz.func36) (fun α γ w h=>dO 13 (bg _ b p p lo hi ((p:Nat):Int) hf.r (by omega) (by omega))) ?_
         refine Rf.aC 14 _ _ rfl (Pl.en Tryz.func47) (fun α γ w h=>aU 14 (jk _ _ _ (Int.natAbs M) (b^p) (h.r 11 rfl) (h.r 13 rfl) (Nat.le_trans (Sn.down (bK hf.r (by omega):Sn (b^p) 38) (by omega)) (by decide)) (Nat.le_trans (bK hf.r (by omega):Sn (b^p) 38) (by decide)) _ rfl)) ?_
         refine Rf.ah (v:=.bool false) (fun X=>aK (fun h=>hP (by have h9:=xC.1 h;omega)) X) rfl ?_
         refine Rf.HY0 aa 2 0 rfl ?_
         refine Rf.Fg 11 (dW (Int.natAbs M2)) rfl (fun w f h=>by rw [← hN3];exact h) ?_
         subst hN4
         exact Rf.jJ [] [(12,11)] hc2 ⟨rfl,rfl,rfl,rfl,rfl,rfl,rfl,trivial⟩ ⟨rfl,rfl,trivial⟩ ⟨rfl,trivial⟩ rfl
   · intro hc1
     by_cases hr:0<rest b q x
     · refine Rf.iB none fo rfl ?_
       refine Rf.aD aa 12 5 rfl ?_
       refine Rf.ak 12 _ _ rfl (Pl.en Tryz.func33) (fun α γ w h=>aU 12 (iw _ _ (rest b q x) (A+J+(B+J)+2) (B+J+1) (h.r 10 rfl).2 (by omega))) ?_
       refine Rf.dL (vT) rfl (fun α γ w h=>(fun X=>jR (Ce.2 hr) X) w) ?_
       refine Rf.aD aa 12 5 rfl ?_
       refine Rf.ak 13 _ _ rfl (Pl.en Tryz.func37) (fun α γ w h=>aU 13 (XT _ _ (Int.natAbs (dg b q x)) 0 (h.r 10 rfl).1 (by omega) (by omega) _ rfl)) ?_
       refine Rf.dL (vB (decide (dg b q x%2=1))) rfl (fun α γ w h=>(fun X=>Wy hdg rfl X) w) ?_
       refine Rf.aD aa 12 5 rfl ?_
       refine Rf.ak 14 _ _ rfl (Pl.en Tryz.func76) (fun α γ w h=>aU 14 ((by have h9:=aap w _ (rest b q x) (A+J+(B+J)+2) (B+J+1) (h.r 10 rfl).2 (decide (dg b q x%2=1)) (by omega) (by omega) d false hd hr;rw [hU1] at h9;exact h9))) ?_
       refine Rf.aD aa 12 5 rfl ?_
       refine Rf.aW (by kernel_rfl) ?_
       refine Rf.aP [2,4,6,7,8,10,11,73] [1,2] [10] rfl ?_
       cases U1
       · refine Rf.HX aa 1 0 rfl ?_
         have hM3:=aaZ hU1 hM
         refine Rf.HX0 aa 1 0 rfl ?_
         refine Rf.Fg 10 (dW (Int.natAbs M)) rfl (fun w f h=>by rw [hM3];exact h.1) ?_
         exact Rf.jJ [] [(11,10)] hc1 ⟨rfl,rfl,rfl,rfl,rfl,rfl,rfl,trivial⟩ ⟨rfl,rfl,trivial⟩ ⟨rfl,trivial⟩ rfl
       · refine Rf.HX aa 1 0 rfl ?_
         have hM3:=aaY hU1 hM
         refine Rf.bu aa 0 5 rfl ?_
         refine Rf.mH (e := 57) (m:=1) [.int .u32 1] 15 (dW 1) rfl rfl rfl (fun _ _=>rfl) (fun α γ X=>by kernel_rfl) rfl (fun N w k=>Un.one (x:=1) k rfl (by omega)) ?_
         refine Rf.aC 16 _ _ rfl (Pl.en Tryz.func77) (fun α γ w h=>dO 16 (Y7 _ _ _ (Int.natAbs (dg b q x)) 1 (h.r 10 rfl).1 (h.r 15 rfl) (Nat.le_trans hsx (by decide)) (Nat.le_trans (Sn.of (K:=1) (by decide)) (by decide)) (Int.natAbs M) (by omega))) ?_
         refine Rf.HY0 aa 0 5 rfl ?_
         exact Rf.jJ [] [(11,16)] hc1 ⟨rfl,rfl,rfl,rfl,rfl,rfl,rfl,trivial⟩ ⟨rfl,rfl,trivial⟩ ⟨rfl,trivial⟩ rfl
     · refine Rf.iB none fo rfl ?_
       refine Rf.aD aa 12 5 rfl ?_
       refine Rf.ak 12 _ _ rfl (Pl.en Tryz.func33) (fun α γ w h=>aU 12 (iw _ _ (rest b q x) (A+J+(B+J)+2) (B+J+1) (h.r 10 rfl).2 (by omega))) ?_
       refine Rf.dL (vF) rfl (fun α γ w h=>(fun X=>bz (fun h=>hr (Ce.1 h)) X) w) ?_
       refine Rf.aD aa 12 5 rfl ?_
       refine Rf.aW (by kernel_rfl) ?_
       refine Rf.aP [2,4,6,7,8,10,11,73] [1,2] [10] rfl ?_
       refine Rf.HX aa 1 0 rfl ?_
       have hM3:=aaZ (abM (Bl q x).1 hr) hM
       refine Rf.HX0 aa 1 0 rfl ?_
       refine Rf.Fg 10 (dW (Int.natAbs M)) rfl (fun w f h=>by rw [hM3];exact h.1) ?_
       exact Rf.jJ [] [(11,10)] hc1 ⟨rfl,rfl,rfl,rfl,rfl,rfl,rfl,trivial⟩ ⟨rfl,rfl,trivial⟩ ⟨rfl,trivial⟩ rfl
end Go.Proofs.YtgcieamfidoaoaaGreatDoor
namespace Go.Proofs.YtgcieamfidoaoaaGreatDoor
open Go.RowKit Rf Fm
set_option maxRecDepth 100000
theorem abQ (w:World) (va:Value) (q:Rat) (A B:Nat) (ha:Qn w va q A B) (hA:A≤60) (b p:Nat) (lo hi:Int) (hf:fT b p lo hi) (d:Nat) (hd:d<5) (hq:q=0) :
  Calls Tryz.prog 31 #[va,.agg #[.int .i64 ((b:Nat):Int),.int .i64 ((p:Nat):Int),.int .i64 lo,.int .i64 hi],.int .i64 ((d:Nat):Int)] w fun e w'=>∃ u,e = .returned (.tuple #[u,.int .i64 0])∧Fv w' u (rd b p lo hi d q)∧Pl.Ex w w':=by
 obtain ⟨Aa,ca,Ba,ba,rfl,ua,ta,za,ya⟩:=ha
 refine Rf.aA (n:=126) [.a [.c 0 0,.c 0 1,.c 0 2],.a [vI ((b:Nat):Int),vI ((p:Nat):Int),vI lo,vI hi],vI ((d:Nat):Int)] [[.bool (decide (Rat.num q<0)),.slice Aa (limbs (Rat.num q).natAbs).length ca,.slice Ba (limbs (Rat.den q)).length ba]] [(0,(pI q A B).S)] Tryz.func31 rfl (by kernel_rfl) rfl rfl ⟨RS.in ⟨Aa,ca,Ba,ba,rfl,ua,ta,za,ya⟩,trivial⟩ ?_
 refine Rf.bu aa 1 0 rfl ?_
 refine Rf.aC 1 _ _ rfl (Pl.en Tryz.func14) (fun α γ w h=>aU 1 (dh _ b p lo hi hf)) ?_
 refine Rf.aV (.bool false) rfl (fun X=>aT _ X) ?_
 refine Rf.ay aa 3 rfl ?_
 refine Rf.ah (v:=.bool false) (fun X=>bM (by omega) X) rfl ?_
 refine Rf.ay aa 3 rfl ?_
 refine Rf.ah (v:=.bool false) (fun X=>bz (by omega) X) rfl ?_
 refine Rf.bY aa 2 3 rfl ?_
 refine Rf.aC 2 _ _ rfl (Pl.en Tryz.func33) (fun α γ w h=>aU 2 (iw _ _ q A B (h.r 0 rfl) (by omega))) ?_
 refine Rf.ah (v:=.bool false) (fun X=>bM (fun h=>by have h9:=QO.1 h;grind) X) rfl ?_
 refine Rf.bY aa 0 3 rfl ?_
 refine Rf.aC 3 _ _ rfl (Pl.en Tryz.func33) (fun α γ w h=>aU 3 (iw _ _ q A B (h.r 0 rfl) (by omega))) ?_
 refine Rf.ah (v:=.bool true) (fun X=>aM (tK.2 hq) X) rfl ?_
 refine Rf.bY aa 1 0 rfl ?_
 refine Rf.gU (.a [vI 0,vF,vN,vI 0]) rfl rfl rfl (fun _ _=>rfl) (fun α γ X=>by kernel_rfl) ?_
 refine Rf.HY aa 0 3 rfl ?_
 exact Rf.aaa aa rfl (fun α γ w h=>⟨_,rfl,by rw [hq,uM hf.b2 hf.p1];exact Fv.mk (x:=.zero false) (iA _),h.ex⟩)
theorem abr (w:World) (va:Value) (q:Rat) (A B:Nat) (ha:Qn w va q A B) (b p:Nat) (lo hi:Int) (hf:fT b p lo hi) (d:Nat) (hd:d<5) (J:Nat) (hJ1 : -lo<8*(J:Int)) (hJ2:∀ f,Fit b p lo (if q<0 then -q else q) f→f<8*(J:Int)) (hJ:J≤38) (hA:A+B+2*J+2≤100) (hA6:A≤60) (DJ:B≤60) :
  Calls Tryz.prog 31 #[va,.agg #[.int .i64 ((b:Nat):Int),.int .i64 ((p:Nat):Int),.int .i64 lo,.int .i64 hi],.int .i64 ((d:Nat):Int)] w fun e w'=>∃ u,e = .returned (.tuple #[u,.int .i64 0])∧Fv w' u (rd b p lo hi d q)∧Pl.Ex w w':=by
 by_cases h:q<0
 · exact abO w va q A B ha b p lo hi hf d hd h J hJ1 (by rw [if_pos h] at hJ2;exact hJ2) hJ hA hA6 DJ
 · by_cases h0:q=0
   · exact abQ w va q A B ha hA6 b p lo hi hf d hd h0
   · exact abP w va q A B ha b p lo hi hf d hd (by grind) J hJ1 (by rw [if_neg h] at hJ2;exact hJ2) hJ hA hA6 DJ
end Go.Proofs.YtgcieamfidoaoaaGreatDoor
namespace Go.Proofs.YtgcieamfidoaoaaGreatDoor
open Go.RowKit Rf Fm
set_option maxRecDepth 100000
def eU (xs:List Nat):RS:=⟨fun w f=>U w (f 0) xs,fun h hs hk=>jd h hs hk⟩
def and1 (z:Int):Nat:=(BitVec.ofInt 64 z&&&BitVec.ofInt 64 1).toNat
theorem j5 (z:Int):and1 z≤1:=by unfold and1;rw [BitVec.toNat_and];exact Nat.and_le_right
theorem om (z:Int) (T:TypeId) (x y:Operand) (X:World):Pl.Bn Tryz.prog .and T x y (.int .i64 z) (.int .i64 1) X = .ok (.int .i64 ((and1 z:Nat):Int)) X:=by
 have h:=j5 z
 have e:IntKind.i64.wrap ((and1 z:Nat):Int)=((and1 z:Nat):Int):=Pl.oC (by omega) (by omega)
 show (do eqGuard .and T x y (.int .i64 z) (.int .i64 1);binOp .and T (.int .i64 z) (.int .i64 1):Sem Value).run Tryz.prog X=_
 have h2:(Op.intBits .and .i64 z 1).run Tryz.prog X = .ok (.int .i64 (IntKind.i64.wrap ((and1 z:Nat):Int))) X:=rfl
 rw [e] at h2
 exact h2
def iM (z:Int):Nat:=(BitVec.ofInt 64 z&&&BitVec.ofInt 64 8).toNat
theorem j6 (z:Int):iM z≤8:=by unfold iM;rw [BitVec.toNat_and];exact Nat.and_le_right
theorem oo (z:Int) (T:TypeId) (x y:Operand) (X:World):Pl.Bn Tryz.prog .and T x y (.int .i64 z) (.int .i64 8) X = .ok (.int .i64 ((iM z:Nat):Int)) X:=by
 have h:=j6 z
 have e:IntKind.i64.wrap ((iM z:Nat):Int)=((iM z:Nat):Int):=Pl.oC (by omega) (by omega)
 show (do eqGuard .and T x y (.int .i64 z) (.int .i64 8);binOp .and T (.int .i64 z) (.int .i64 8):Sem Value).run Tryz.prog X=_
 have h2:(Op.intBits .and .i64 z 8).run Tryz.prog X = .ok (.int .i64 (IntKind.i64.wrap ((iM z:Nat):Int))) X:=rfl
 rw [e] at h2
 exact h2
def aN (z:Int):Nat:=(BitVec.ofInt 64 z&&&BitVec.ofInt 64 65535).toNat
theorem bW (z:Int):aN z≤65535:=by unfold aN;rw [BitVec.toNat_and];exact Nat.and_le_right
theorem dJ (z:Int) (T:TypeId) (x y:Operand) (X:World):Pl.Bn Tryz.prog .and T x y (.int .i64 z) (.int .i64 65535) X = .ok (.int .i64 ((aN z:Nat):Int)) X:=by
 have h:=bW z
 have e:IntKind.i64.wrap ((aN z:Nat):Int)=((aN z:Nat):Int):=Pl.oC (by omega) (by omega)
 show (do eqGuard .and T x y (.int .i64 z) (.int .i64 65535);binOp .and T (.int .i64 z) (.int .i64 65535):Sem Value).run Tryz.prog X=_
 have h2:(Op.intBits .and .i64 z 65535).run Tryz.prog X = .ok (.int .i64 (IntKind.i64.wrap ((aN z:Nat):Int))) X:=rfl
 rw [e] at h2
 exact h2
theorem bD {P:Program} {T:TypeId} {x y:Operand} {a b:Nat} (h:a+b≤9223372036854775807) (X:World):Pl.Bn P .add T x y (.int .i64 ((a:Nat):Int)) (.int .i64 ((b:Nat):Int)) X = .ok (.int .i64 ((a+b:Nat):Int)) X:=Pl.Ep (Pl.a64 rfl rfl h) X
theorem bF {P:Program} {T:TypeId} {x y:Operand} {a b:Nat} (h0:b≠0) (_:a≤a) (X:World):Pl.Bn P .rem T x y (.int .i64 ((a:Nat):Int)) (.int .i64 ((b:Nat):Int)) X = .ok (.int .i64 ((a%b:Nat):Int)) X:=Pl.rY (by omega) (Int.ofNat_tmod a b).symm X
def dw (r:Int):Nat:=if and1 r=0∧iM r=8 then 10 else 2
def fu (p:Int):Nat:=1+aN p%10
def dY (l:Int):Int:=((aN l%31:Nat):Int)-20
def fD (l h:Int):Int:=dY l+((aN h%21:Nat):Int)
theorem jM (r p l h:Int):fT (dw r) (fu p) (dY l) (fD l h)∧fu p≤10 ∧ -20≤dY l∧fD l h≤30:=by
 unfold dw fu fD dY
 refine ⟨⟨by split<;>omega,by omega,by omega,by omega,by omega,by omega⟩,by omega,by omega,by omega⟩
theorem iq (w:World) (r9 p9 l9 h9:Int) :
  Calls Tryz.prog 29 #[.agg #[.int .i64 r9,.int .i64 p9,.int .i64 l9,.int .i64 h9]] w fun e w'=>e = .returned (.agg #[.int .i64 ((dw r9:Nat):Int),.int .i64 ((fu p9:Nat):Int),.int .i64 (dY l9),.int .i64 (fD l9 h9)])∧Pl.Ex w w':=by
 have qp9:=bW p9
 have ql9:=bW l9
 have qh9:=bW h9
 have g1:=j5 r9
 have g8:=j6 r9
 refine Rf.aA (n:=35) [.a [vI r9,vI p9,vI l9,vI h9]] [] [] Tryz.func29 rfl (by kernel_rfl) rfl rfl trivial ?_
 refine Rf.bu aa 1 0 rfl ?_
 refine Rf.ah (v:=.int .i64 ((aN p9:Nat):Int)) (fun X=>dJ p9 _ _ _ X) rfl ?_
 refine Rf.ah (v:=.int .i64 ((((aN p9)%10):Nat):Int)) (bF (a:=(aN p9)) (b:=10) (by omega) (by omega)) rfl ?_
 refine Rf.ah (v:=.int .i64 (((1+((aN p9)%10)):Nat):Int)) (bD (a:=1) (b:=((aN p9)%10)) (by omega)) rfl ?_
 refine Rf.ay aa 2 rfl ?_
 refine Rf.ah (v:=.int .i64 ((aN l9:Nat):Int)) (fun X=>dJ l9 _ _ _ X) rfl ?_
 refine Rf.ah (v:=.int .i64 ((((aN l9)%31):Nat):Int)) (bF (a:=(aN l9)) (b:=31) (by omega) (by omega)) rfl ?_
 refine Rf.ah (v:=.int .i64 (((((aN l9)%31):Nat):Int)-20)) (fun X=>eH (by omega) X) rfl ?_
 refine Rf.gU (.a [vI 2,vI (((1+((aN p9)%10)):Nat):Int),vI (((((aN l9)%31):Nat):Int)-20),vI 0]) rfl rfl rfl (fun _ _=>rfl) (fun α γ X=>by kernel_rfl) ?_
 refine Rf.bY aa 0 2 rfl ?_
 refine Rf.ah (v:=.int .i64 ((and1 r9:Nat):Int)) (fun X=>om r9 _ _ _ X) rfl ?_
 refine Rf.jZ (p:=(((and1 r9):Nat):Int)=0) (l8 _ _) rfl (fun c1=>?_) (fun c1=>?_)
 · refine Rf.ay aa 3 rfl ?_
   refine Rf.ah (v:=.int .i64 ((iM r9:Nat):Int)) (fun X=>oo r9 _ _ _ X) rfl ?_
   refine Rf.jZ (p:=(((iM r9):Nat):Int)=8) (l8 _ _) rfl (fun c2=>?_) (fun c2=>?_)
   · refine Rf.bY aa 2 3 rfl ?_
     refine Rf.ah (v:=.int .i64 ((aN h9:Nat):Int)) (fun X=>dJ h9 _ _ _ X) rfl ?_
     refine Rf.ah (v:=.int .i64 ((((aN h9)%21):Nat):Int)) (bF (a:=(aN h9)) (b:=21) (by omega) (by omega)) rfl ?_
     refine Rf.ah (v:=.int .i64 ((((((aN l9)%31):Nat):Int)-20)+((((aN h9)%21):Nat):Int))) (fun X=>gB (by omega) X) rfl ?_
     refine Rf.HY aa 1 3 rfl ?_
     exact Rf.aaa aa rfl (fun α γ w h=>⟨by rw [show dw r9=10 by unfold dw;split<;>omega];rfl,h.ex⟩)
   · refine Rf.bY aa 2 3 rfl ?_
     refine Rf.ah (v:=.int .i64 ((aN h9:Nat):Int)) (fun X=>dJ h9 _ _ _ X) rfl ?_
     refine Rf.ah (v:=.int .i64 ((((aN h9)%21):Nat):Int)) (bF (a:=(aN h9)) (b:=21) (by omega) (by omega)) rfl ?_
     refine Rf.ah (v:=.int .i64 ((((((aN l9)%31):Nat):Int)-20)+((((aN h9)%21):Nat):Int))) (fun X=>gB (by omega) X) rfl ?_
     refine Rf.HY aa 1 3 rfl ?_
     exact Rf.aaa aa rfl (fun α γ w h=>⟨by rw [show dw r9=2 by unfold dw;split<;>omega];rfl,h.ex⟩)
 · refine Rf.bY aa 2 3 rfl ?_
   refine Rf.ah (v:=.int .i64 ((aN h9:Nat):Int)) (fun X=>dJ h9 _ _ _ X) rfl ?_
   refine Rf.ah (v:=.int .i64 ((((aN h9)%21):Nat):Int)) (bF (a:=(aN h9)) (b:=21) (by omega) (by omega)) rfl ?_
   refine Rf.ah (v:=.int .i64 ((((((aN l9)%31):Nat):Int)-20)+((((aN h9)%21):Nat):Int))) (fun X=>gB (by omega) X) rfl ?_
   refine Rf.HY aa 1 3 rfl ?_
   exact Rf.aaa aa rfl (fun α γ w h=>⟨by rw [show dw r9=2 by unfold dw;split<;>omega];rfl,h.ex⟩)
end Go.Proofs.YtgcieamfidoaoaaGreatDoor
namespace Go.Proofs.YtgcieamfidoaoaaGreatDoor
open Go.RowKit Rf Fm
set_option maxRecDepth 100000
theorem Cn {n:Int} {d K N:Nat} (hd:d≠0) (h1:Sz n K) (h2:Sn d N):Sz (Rat.divInt n ((d:Nat):Int)).num K∧Sn (Rat.divInt n ((d:Nat):Int)).den N:=by
 have hmk:=mk_pos (n:=n) (d:=(d:Int)) (g:=Nat.gcd n.natAbs d) (by omega) (by rw [Int.natAbs_natCast]) (by omega)
 rw [hmk.1,hmk.2,Int.natAbs_natCast]
 exact ⟨Sz.div h1,Sn.Ic (Sz.div (Sn.sz h2))⟩
def fB (b:Bool) (xs ys:List Nat):Rat:=Rat.divInt (sg b (aS xs 4)) (if aS ys 4=0 then 1 else ((aS ys 4:Nat):Int))
theorem gN (w:World) (va:Value) (n9:Bool) (xs:List Nat) (ua:U w va xs) :
  Calls Tryz.prog 67 #[.agg #[.bool n9,va],.int .i64 4] w fun e w'=>∃ u,e = .returned u∧Zn w' u (sg n9 (aS xs 4))∧Pl.Ex w w':=by
 obtain ⟨Aa,ca,rfl,-⟩:=U.shape ua
 have iR:Sn (aS xs 4) 4:=Sz.sn (Sz.cut ua false 4 4 (Nat.le_refl 4))
 have hcut:=iR
 refine Rf.aA (n:=12) [.a [vB n9,.c 0 0],vI 4] [[.slice Aa (List.length xs) ca]] [(0,(eU xs).S)] Tryz.func67 rfl (by kernel_rfl) rfl rfl ⟨RS.in ua,trivial⟩ ?_
 refine Rf.HX aa 1 0 rfl ?_
 refine Rf.aQ none fo ?_
 refine Rf.aD aa 8 2 rfl ?_
 refine Rf.ak 1 _ _ rfl (Pl.en Tryz.func65) (fun α γ w h=>dO 1 (iJ _ _ xs 4 (h.r 0 rfl) (by decide) (by decide) (aS xs 4) rfl)) ?_
 refine Rf.ak 2 _ _ rfl (Pl.en Tryz.func55) (fun α γ w h=>gz 2 (kG _ n9 _ (limbs (aS xs 4)) (h.r 1 rfl) (Nat.le_trans hcut (by decide)) _ (aJ _) (sg n9 (aS xs 4)) rfl)) ?_
 refine Rf.aD aa 8 2 rfl ?_
 refine Rf.aW (by kernel_rfl) ?_
 refine Rf.aP [4] [1] [2] rfl ?_
 exact Rf.aaa aa rfl (fun α γ w h=>⟨_,rfl,(h.r 2 rfl),h.ex⟩)
theorem pq (w:World) (va vb:Value) (n9:Bool) (xs ys:List Nat) (ua:U w va xs) (ub:U w vb ys) (h0:aS ys 4=0) :
  Calls Tryz.prog 28 #[.agg #[.bool n9,va,vb],.int .i64 4] w fun e w'=>∃ u,e = .returned u∧Qn w' u (fB n9 xs ys) 4 4∧Pl.Ex w w':=by
 obtain ⟨Aa,ca,rfl,-⟩:=U.shape ua
 have iR:Sn (aS xs 4) 4:=Sz.sn (Sz.cut ua false 4 4 (Nat.le_refl 4))
 obtain ⟨Ab,cb,rfl,-⟩:=U.shape ub
 have kY:Sn (aS ys 4) 4:=Sz.sn (Sz.cut ub false 4 4 (Nat.le_refl 4))
 have hcut:=kY
 refine Rf.aA (n:=21) [.a [vB n9,.c 0 0,.c 1 0],vI 4] [[.slice Aa (List.length xs) ca],[.slice Ab (List.length ys) cb]] [(0,(eU xs).S),(1,(eU ys).S)] Tryz.func28 rfl (by kernel_rfl) rfl rfl ⟨RS.in ua,RS.in ub,trivial⟩ ?_
 refine Rf.bu aa 1 0 rfl ?_
 refine Rf.aC 2 _ _ rfl (Pl.en Tryz.func65) (fun α γ w h=>dO 2 (iJ _ _ ys 4 (h.r 1 rfl) (by decide) (by decide) (aS ys 4) rfl)) ?_
 refine Rf.bY aa 0 2 rfl ?_
 refine Rf.dD ((limbs (aS ys 4)).length) Tryz.underlying24 rfl rfl rfl rfl rfl rfl (fun w f h=>Un.jX h) ?_
 refine Rf.ah (v:=.bool true) (fun X=>aM (by rw [Int.ofNat_eq_zero,jQ];exact h0) X) rfl ?_
 refine Rf.bY aa 1 0 rfl ?_
 refine Rf.mH (e := 57) (m:=1) [.int .u32 1] 3 (dW 1) rfl rfl rfl (fun _ _=>rfl) (fun α γ X=>by kernel_rfl) rfl (fun N w k=>Un.one (x:=1) k rfl (by omega)) ?_
 refine Rf.bY aa 0 2 rfl ?_
 refine Rf.aC 4 _ _ rfl (Pl.en Tryz.func67) (fun α γ w h=>gz 4 (gN _ _ n9 xs (h.r 0 rfl))) ?_
 refine Rf.ay aa 2 rfl ?_
 refine Rf.aC 5 _ _ rfl (Pl.en Tryz.func68) (fun α γ w h=>gz 5 (fA _ _ 1 (h.r 3 rfl))) ?_
 refine Rf.aC 6 _ _ rfl (Pl.en Tryz.func66) (fun α γ w h=>iP 6 (iK _ _ _ (sg n9 (aS xs 4)) ((1:Nat):Int) _ (h.r 4 rfl) (h.r 5 rfl) 4 1 (nM iR) (Sn.sz (Sn.of (K:=1) (by decide))) (by decide) (by decide) (by omega) rfl)) ?_
 refine Rf.HY aa 0 2 rfl ?_
 exact Rf.aaa aa rfl (fun α γ w h=>⟨_,rfl,by unfold fB;rw [if_pos h0];exact Qn.le (h.r 6 rfl) (by decide) (by decide),h.ex⟩)
theorem pz (w:World) (va vb:Value) (n9:Bool) (xs ys:List Nat) (ua:U w va xs) (ub:U w vb ys) (h0:¬ aS ys 4=0) :
  Calls Tryz.prog 28 #[.agg #[.bool n9,va,vb],.int .i64 4] w fun e w'=>∃ u,e = .returned u∧Qn w' u (fB n9 xs ys) 4 4∧Pl.Ex w w':=by
 obtain ⟨Aa,ca,rfl,-⟩:=U.shape ua
 have iR:Sn (aS xs 4) 4:=Sz.sn (Sz.cut ua false 4 4 (Nat.le_refl 4))
 obtain ⟨Ab,cb,rfl,-⟩:=U.shape ub
 have kY:Sn (aS ys 4) 4:=Sz.sn (Sz.cut ub false 4 4 (Nat.le_refl 4))
 have hcut:=kY
 refine Rf.aA (n:=21) [.a [vB n9,.c 0 0,.c 1 0],vI 4] [[.slice Aa (List.length xs) ca],[.slice Ab (List.length ys) cb]] [(0,(eU xs).S),(1,(eU ys).S)] Tryz.func28 rfl (by kernel_rfl) rfl rfl ⟨RS.in ua,RS.in ub,trivial⟩ ?_
 refine Rf.bu aa 1 0 rfl ?_
 refine Rf.aC 2 _ _ rfl (Pl.en Tryz.func65) (fun α γ w h=>dO 2 (iJ _ _ ys 4 (h.r 1 rfl) (by decide) (by decide) (aS ys 4) rfl)) ?_
 refine Rf.bY aa 0 2 rfl ?_
 refine Rf.dD ((limbs (aS ys 4)).length) Tryz.underlying24 rfl rfl rfl rfl rfl rfl (fun w f h=>Un.jX h) ?_
 refine Rf.ah (v:=.bool false) (fun X=>aK (fun h=>h0 (by rw [Int.ofNat_eq_zero,jQ] at h;exact h)) X) rfl ?_
 refine Rf.bY aa 2 2 rfl ?_
 refine Rf.aC 3 _ _ rfl (Pl.en Tryz.func67) (fun α γ w h=>gz 3 (gN _ _ n9 xs (h.r 0 rfl))) ?_
 refine Rf.ay aa 2 rfl ?_
 refine Rf.aC 4 _ _ rfl (Pl.en Tryz.func68) (fun α γ w h=>gz 4 (fA _ _ (aS ys 4) (h.r 2 rfl))) ?_
 refine Rf.aC 5 _ _ rfl (Pl.en Tryz.func66) (fun α γ w h=>iP 5 (iK _ _ _ (sg n9 (aS xs 4)) (((aS ys 4):Nat):Int) _ (h.r 3 rfl) (h.r 4 rfl) 4 4 (nM iR) (Sn.sz hcut) (by decide) (by decide) (by omega) rfl)) ?_
 refine Rf.HY aa 0 2 rfl ?_
 exact Rf.aaa aa rfl (fun α γ w h=>⟨_,rfl,by unfold fB;rw [if_neg h0];exact Qn.le (h.r 5 rfl) (by decide) (by decide),h.ex⟩)
theorem gP (w:World) (va vb:Value) (n9:Bool) (xs ys:List Nat) (ua:U w va xs) (ub:U w vb ys) :
  Calls Tryz.prog 28 #[.agg #[.bool n9,va,vb],.int .i64 4] w fun e w'=>∃ u,e = .returned u∧Qn w' u (fB n9 xs ys) 4 4∧Pl.Ex w w':=by
 by_cases h:aS ys 4=0
 · exact pq w va vb n9 xs ys ua ub h
 · exact pz w va vb n9 xs ys ua ub h
end Go.Proofs.YtgcieamfidoaoaaGreatDoor
namespace Go.Proofs.YtgcieamfidoaoaaGreatDoor
open Go.RowKit Rf Fm
set_option maxRecDepth 100000
theorem zg {n:Bool} {xs ys:List Nat} (h:Sn (aS xs 4) 4) (g:Sn (aS ys 4) 4):Sz (fB n xs ys).num 4:=by
 unfold fB
 split
 · exact (Cn (d:=1) (K:=4) (N:=1) (by decide) (nM h) (Sn.of (by decide))).1
 · rename_i h0;exact (Cn (K:=4) (N:=4) h0 (nM h) g).1
end Go.Proofs.YtgcieamfidoaoaaGreatDoor
namespace Go.Proofs.YtgcieamfidoaoaaGreatDoor
open Go.RowKit Rf Fm
set_option maxRecDepth 100000
def aac (r9 p9 l9 h9:Int):Bool:=decide ((r9=2∨r9=10)∧1≤p9∧p9≤4096∧l9≤h9 ∧ -100000≤l9∧h9≤100000)
theorem aaq (w : World) (r9 p9 l9 h9:Int) :
  Calls Tryz.prog 13 #[.agg #[.int .i64 r9,.int .i64 p9,.int .i64 l9,.int .i64 h9]] w fun e w'=>e = .returned (.bool (aac r9 p9 l9 h9))∧Pl.Ex w w':=by
 refine Rf.aA (n:=38) [.a [vI r9,vI p9,vI l9,vI h9]] [] [] Tryz.func13 rfl (by kernel_rfl) rfl rfl trivial ?_
 refine Rf.bu aa 1 0 rfl ?_
 refine Rf.jZ (p:=r9=2) (l8 _ _) rfl (fun c1=>?_) (fun c1=>?_)
 · refine Rf.ay aa 1 rfl ?_
   refine Rf.jZ (p:=p9≥1) (abp _ _) rfl (fun c2=>?_) (fun c2=>?_)
   · refine Rf.ay aa 1 rfl ?_
     refine Rf.jZ (p:=p9≤4096) (aak _ _) rfl (fun c3=>?_) (fun c3=>?_)
     · refine Rf.ay aa 1 rfl ?_
       refine Rf.jZ (p:=l9≤h9) (aak _ _) rfl (fun c4=>?_) (fun c4=>?_)
       · refine Rf.ay aa 1 rfl ?_
         refine Rf.jZ (p:=l9≥(-100000)) (abp _ _) rfl (fun c5=>?_) (fun c5=>?_)
         · refine Rf.ay aa 1 rfl ?_
           refine Rf.jZ (p:=h9≤100000) (aak _ _) rfl (fun c6=>?_) (fun c6=>?_)
           · refine Rf.HY aa 0 1 rfl ?_
             exact Rf.aaa aa rfl (fun α γ w h=>⟨by rw [show aac r9 p9 l9 h9=true from decide_eq_true (by omega)];rfl,h.ex⟩)
           · refine Rf.HY aa 0 1 rfl ?_
             exact Rf.aaa aa rfl (fun α γ w h=>⟨by rw [show aac r9 p9 l9 h9=false from decide_eq_false (by omega)];rfl,h.ex⟩)
         · refine Rf.HY aa 0 1 rfl ?_
           exact Rf.aaa aa rfl (fun α γ w h=>⟨by rw [show aac r9 p9 l9 h9=false from decide_eq_false (by omega)];rfl,h.ex⟩)
       · refine Rf.HY aa 0 1 rfl ?_
         exact Rf.aaa aa rfl (fun α γ w h=>⟨by rw [show aac r9 p9 l9 h9=false from decide_eq_false (by omega)];rfl,h.ex⟩)
     · refine Rf.HY aa 0 1 rfl ?_
       exact Rf.aaa aa rfl (fun α γ w h=>⟨by rw [show aac r9 p9 l9 h9=false from decide_eq_false (by omega)];rfl,h.ex⟩)
   · refine Rf.HY aa 0 1 rfl ?_
     exact Rf.aaa aa rfl (fun α γ w h=>⟨by rw [show aac r9 p9 l9 h9=false from decide_eq_false (by omega)];rfl,h.ex⟩)
 · refine Rf.ay aa 1 rfl ?_
   refine Rf.jZ (p:=r9=10) (l8 _ _) rfl (fun c2=>?_) (fun c2=>?_)
   · refine Rf.ay aa 1 rfl ?_
     refine Rf.jZ (p:=p9≥1) (abp _ _) rfl (fun c3=>?_) (fun c3=>?_)
     · refine Rf.ay aa 1 rfl ?_
       refine Rf.jZ (p:=p9≤4096) (aak _ _) rfl (fun c4=>?_) (fun c4=>?_)
       · refine Rf.ay aa 1 rfl ?_
         refine Rf.jZ (p:=l9≤h9) (aak _ _) rfl (fun c5=>?_) (fun c5=>?_)
         · refine Rf.ay aa 1 rfl ?_
           refine Rf.jZ (p:=l9≥(-100000)) (abp _ _) rfl (fun c6=>?_) (fun c6=>?_)
           · refine Rf.ay aa 1 rfl ?_
             refine Rf.jZ (p:=h9≤100000) (aak _ _) rfl (fun c7=>?_) (fun c7=>?_)
             · refine Rf.HY aa 0 1 rfl ?_
               exact Rf.aaa aa rfl (fun α γ w h=>⟨by rw [show aac r9 p9 l9 h9=true from decide_eq_true (by omega)];rfl,h.ex⟩)
             · refine Rf.HY aa 0 1 rfl ?_
               exact Rf.aaa aa rfl (fun α γ w h=>⟨by rw [show aac r9 p9 l9 h9=false from decide_eq_false (by omega)];rfl,h.ex⟩)
           · refine Rf.HY aa 0 1 rfl ?_
             exact Rf.aaa aa rfl (fun α γ w h=>⟨by rw [show aac r9 p9 l9 h9=false from decide_eq_false (by omega)];rfl,h.ex⟩)
         · refine Rf.HY aa 0 1 rfl ?_
           exact Rf.aaa aa rfl (fun α γ w h=>⟨by rw [show aac r9 p9 l9 h9=false from decide_eq_false (by omega)];rfl,h.ex⟩)
       · refine Rf.HY aa 0 1 rfl ?_
         exact Rf.aaa aa rfl (fun α γ w h=>⟨by rw [show aac r9 p9 l9 h9=false from decide_eq_false (by omega)];rfl,h.ex⟩)
     · refine Rf.HY aa 0 1 rfl ?_
       exact Rf.aaa aa rfl (fun α γ w h=>⟨by rw [show aac r9 p9 l9 h9=false from decide_eq_false (by omega)];rfl,h.ex⟩)
   · refine Rf.HY aa 0 1 rfl ?_
     exact Rf.aaa aa rfl (fun α γ w h=>⟨by rw [show aac r9 p9 l9 h9=false from decide_eq_false (by omega)];rfl,h.ex⟩)
theorem abx (w:World) (va:Value) (q:Rat) (L M:Nat) (ha:Qn w va q L M) (r9 p9 l9 h9:Int) (hR:aac r9 p9 l9 h9=true) :
  Calls Tryz.prog 30 #[va,.agg #[.int .i64 r9,.int .i64 p9,.int .i64 l9,.int .i64 h9],.int .i64 (-1)] w fun e w'=>e = .returned (.tuple #[.agg #[.int .i64 0,.bool false,.slice none 0 0,.int .i64 0],.int .i64 1])∧Pl.Ex w w':=by
 obtain ⟨Aa,ca,Ba,ba,rfl,ua,ta,za,ya⟩:=ha
 refine Rf.aA (n:=122) [.a [.c 0 0,.c 0 1,.c 0 2],.a [vI r9,vI p9,vI l9,vI h9],vI (-1)] [[.bool (decide (Rat.num q<0)),.slice Aa (limbs (Rat.num q).natAbs).length ca,.slice Ba (limbs (Rat.den q)).length ba]] [(0,(pI q L M).S)] Tryz.func30 rfl (by kernel_rfl) rfl rfl ⟨RS.in ⟨Aa,ca,Ba,ba,rfl,ua,ta,za,ya⟩,trivial⟩ ?_
 refine Rf.bu aa 1 0 rfl ?_
 refine Rf.aC 1 (TR) (.a [.v (.func (.func 111) #[] #[]),.v (.func (.func 110) #[] #[]),.v (.func (.func 112) #[] #[]),.v (.func (.func 110) #[] #[]),.v (.func (.func 113) #[] #[]),.v (.func (.func 114) #[] #[]),.v (.func (.func 115) #[] #[]),.v (.func (.func 116) #[] #[]),.v (.func (.func 117) #[] #[]),.v (.func (.func 118) #[] #[])]) rfl (Pl.en Tryz.func69) (fun α γ w h=>xE (.a [.v (.func (.func 111) #[] #[]),.v (.func (.func 110) #[] #[]),.v (.func (.func 112) #[] #[]),.v (.func (.func 110) #[] #[]),.v (.func (.func 113) #[] #[]),.v (.func (.func 114) #[] #[]),.v (.func (.func 115) #[] #[]),.v (.func (.func 116) #[] #[]),.v (.func (.func 117) #[] #[]),.v (.func (.func 118) #[] #[])]) 1 (fun _ _=>rfl) (pO _)) ?_
 refine Rf.bY aa 0 3 rfl ?_
 refine Rf.aC 2 _ _ rfl (Pl.en Tryz.func13) (fun α γ w h=>aU 2 ((by have h9:=aaq w r9 p9 l9 h9;rw [hR] at h9;exact h9))) ?_
 refine Rf.aV (.bool false) rfl (fun X=>aT _ X) ?_
 refine Rf.ay aa 4 rfl ?_
 refine Rf.ah (v:=.bool true) (fun X=>bL (by decide) X) rfl ?_
 refine Rf.bY aa 1 4 rfl ?_
 refine Rf.gU (.a [vI 0,vF,vN,vI 0]) rfl rfl rfl (fun _ _=>rfl) (fun α γ X=>by kernel_rfl) ?_
 refine Rf.HY aa 0 4 rfl ?_
 exact Rf.aaa aa rfl (fun α γ w h=>⟨rfl,h.ex⟩)
theorem abB (w:World) (va:Value) (q:Rat) (L M:Nat) (ha:Qn w va q L M) (r9 p9 l9 h9:Int) (hR:aac r9 p9 l9 h9=false) :
  Calls Tryz.prog 30 #[va,.agg #[.int .i64 r9,.int .i64 p9,.int .i64 l9,.int .i64 h9],.int .i64 (-1)] w fun e w'=>e = .returned (.tuple #[.agg #[.int .i64 0,.bool false,.slice none 0 0,.int .i64 0],.int .i64 1])∧Pl.Ex w w':=by
 obtain ⟨Aa,ca,Ba,ba,rfl,ua,ta,za,ya⟩:=ha
 refine Rf.aA (n:=122) [.a [.c 0 0,.c 0 1,.c 0 2],.a [vI r9,vI p9,vI l9,vI h9],vI (-1)] [[.bool (decide (Rat.num q<0)),.slice Aa (limbs (Rat.num q).natAbs).length ca,.slice Ba (limbs (Rat.den q)).length ba]] [(0,(pI q L M).S)] Tryz.func30 rfl (by kernel_rfl) rfl rfl ⟨RS.in ⟨Aa,ca,Ba,ba,rfl,ua,ta,za,ya⟩,trivial⟩ ?_
 refine Rf.bu aa 1 0 rfl ?_
 refine Rf.aC 1 (TR) (.a [.v (.func (.func 111) #[] #[]),.v (.func (.func 110) #[] #[]),.v (.func (.func 112) #[] #[]),.v (.func (.func 110) #[] #[]),.v (.func (.func 113) #[] #[]),.v (.func (.func 114) #[] #[]),.v (.func (.func 115) #[] #[]),.v (.func (.func 116) #[] #[]),.v (.func (.func 117) #[] #[]),.v (.func (.func 118) #[] #[])]) rfl (Pl.en Tryz.func69) (fun α γ w h=>xE (.a [.v (.func (.func 111) #[] #[]),.v (.func (.func 110) #[] #[]),.v (.func (.func 112) #[] #[]),.v (.func (.func 110) #[] #[]),.v (.func (.func 113) #[] #[]),.v (.func (.func 114) #[] #[]),.v (.func (.func 115) #[] #[]),.v (.func (.func 116) #[] #[]),.v (.func (.func 117) #[] #[]),.v (.func (.func 118) #[] #[])]) 1 (fun _ _=>rfl) (pO _)) ?_
 refine Rf.bY aa 0 3 rfl ?_
 refine Rf.aC 2 _ _ rfl (Pl.en Tryz.func13) (fun α γ w h=>aU 2 ((by have h9:=aaq w r9 p9 l9 h9;rw [hR] at h9;exact h9))) ?_
 refine Rf.aV (.bool true) rfl (fun X=>aT _ X) ?_
 refine Rf.bY aa 1 4 rfl ?_
 refine Rf.gU (.a [vI 0,vF,vN,vI 0]) rfl rfl rfl (fun _ _=>rfl) (fun α γ X=>by kernel_rfl) ?_
 refine Rf.HY aa 0 4 rfl ?_
 exact Rf.aaa aa rfl (fun α γ w h=>⟨rfl,h.ex⟩)
theorem aaD (w:World) (va:Value) (q:Rat) (L M:Nat) (ha:Qn w va q L M) (r9 p9 l9 h9:Int) :
  Calls Tryz.prog 30 #[va,.agg #[.int .i64 r9,.int .i64 p9,.int .i64 l9,.int .i64 h9],.int .i64 (-1)] w fun e w'=>e = .returned (.tuple #[.agg #[.int .i64 0,.bool false,.slice none 0 0,.int .i64 0],.int .i64 1])∧Pl.Ex w w':=by
 cases hR:aac r9 p9 l9 h9 with
 | true=>exact abx w va q L M ha r9 p9 l9 h9 hR
 | false=>exact abB w va q L M ha r9 p9 l9 h9 hR
theorem abC (w:World) (va:Value) (q:Rat) (L M:Nat) (ha:Qn w va q L M) (b p:Nat) (lo hi:Int) (hf:fT b p lo hi) (z9:Int) (hz:z9<0) :
  Calls Tryz.prog 30 #[va,.agg #[.int .i64 ((b:Nat):Int),.int .i64 ((p:Nat):Int),.int .i64 lo,.int .i64 hi],.int .i64 z9] w fun e w'=>e = .returned (.tuple #[.agg #[.int .i64 0,.bool false,.slice none 0 0,.int .i64 0],.int .i64 1])∧Pl.Ex w w':=by
 obtain ⟨Aa,ca,Ba,ba,rfl,ua,ta,za,ya⟩:=ha
 refine Rf.aA (n:=122) [.a [.c 0 0,.c 0 1,.c 0 2],.a [vI ((b:Nat):Int),vI ((p:Nat):Int),vI lo,vI hi],vI z9] [[.bool (decide (Rat.num q<0)),.slice Aa (limbs (Rat.num q).natAbs).length ca,.slice Ba (limbs (Rat.den q)).length ba]] [(0,(pI q L M).S)] Tryz.func30 rfl (by kernel_rfl) rfl rfl ⟨RS.in ⟨Aa,ca,Ba,ba,rfl,ua,ta,za,ya⟩,trivial⟩ ?_
 refine Rf.bu aa 1 0 rfl ?_
 refine Rf.aC 1 (TR) (.a [.v (.func (.func 111) #[] #[]),.v (.func (.func 110) #[] #[]),.v (.func (.func 112) #[] #[]),.v (.func (.func 110) #[] #[]),.v (.func (.func 113) #[] #[]),.v (.func (.func 114) #[] #[]),.v (.func (.func 115) #[] #[]),.v (.func (.func 116) #[] #[]),.v (.func (.func 117) #[] #[]),.v (.func (.func 118) #[] #[])]) rfl (Pl.en Tryz.func69) (fun α γ w h=>xE (.a [.v (.func (.func 111) #[] #[]),.v (.func (.func 110) #[] #[]),.v (.func (.func 112) #[] #[]),.v (.func (.func 110) #[] #[]),.v (.func (.func 113) #[] #[]),.v (.func (.func 114) #[] #[]),.v (.func (.func 115) #[] #[]),.v (.func (.func 116) #[] #[]),.v (.func (.func 117) #[] #[]),.v (.func (.func 118) #[] #[])]) 1 (fun _ _=>rfl) (pO _)) ?_
 refine Rf.bY aa 0 3 rfl ?_
 refine Rf.aC 2 _ _ rfl (Pl.en Tryz.func13) (fun α γ w h=>aU 2 (ig _ b p lo hi hf)) ?_
 refine Rf.aV (.bool false) rfl (fun X=>aT _ X) ?_
 refine Rf.ay aa 4 rfl ?_
 refine Rf.ah (v:=.bool true) (fun X=>bL hz X) rfl ?_
 refine Rf.bY aa 1 4 rfl ?_
 refine Rf.gU (.a [vI 0,vF,vN,vI 0]) rfl rfl rfl (fun _ _=>rfl) (fun α γ X=>by kernel_rfl) ?_
 refine Rf.HY aa 0 4 rfl ?_
 exact Rf.aaa aa rfl (fun α γ w h=>⟨rfl,h.ex⟩)
theorem abD (w:World) (va:Value) (q:Rat) (L M:Nat) (ha:Qn w va q L M) (b p:Nat) (lo hi:Int) (hf:fT b p lo hi) (z9:Int) (hz:5≤z9) :
  Calls Tryz.prog 30 #[va,.agg #[.int .i64 ((b:Nat):Int),.int .i64 ((p:Nat):Int),.int .i64 lo,.int .i64 hi],.int .i64 z9] w fun e w'=>e = .returned (.tuple #[.agg #[.int .i64 0,.bool false,.slice none 0 0,.int .i64 0],.int .i64 1])∧Pl.Ex w w':=by
 obtain ⟨Aa,ca,Ba,ba,rfl,ua,ta,za,ya⟩:=ha
 refine Rf.aA (n:=122) [.a [.c 0 0,.c 0 1,.c 0 2],.a [vI ((b:Nat):Int),vI ((p:Nat):Int),vI lo,vI hi],vI z9] [[.bool (decide (Rat.num q<0)),.slice Aa (limbs (Rat.num q).natAbs).length ca,.slice Ba (limbs (Rat.den q)).length ba]] [(0,(pI q L M).S)] Tryz.func30 rfl (by kernel_rfl) rfl rfl ⟨RS.in ⟨Aa,ca,Ba,ba,rfl,ua,ta,za,ya⟩,trivial⟩ ?_
 refine Rf.bu aa 1 0 rfl ?_
 refine Rf.aC 1 (TR) (.a [.v (.func (.func 111) #[] #[]),.v (.func (.func 110) #[] #[]),.v (.func (.func 112) #[] #[]),.v (.func (.func 110) #[] #[]),.v (.func (.func 113) #[] #[]),.v (.func (.func 114) #[] #[]),.v (.func (.func 115) #[] #[]),.v (.func (.func 116) #[] #[]),.v (.func (.func 117) #[] #[]),.v (.func (.func 118) #[] #[])]) rfl (Pl.en Tryz.func69) (fun α γ w h=>xE (.a [.v (.func (.func 111) #[] #[]),.v (.func (.func 110) #[] #[]),.v (.func (.func 112) #[] #[]),.v (.func (.func 110) #[] #[]),.v (.func (.func 113) #[] #[]),.v (.func (.func 114) #[] #[]),.v (.func (.func 115) #[] #[]),.v (.func (.func 116) #[] #[]),.v (.func (.func 117) #[] #[]),.v (.func (.func 118) #[] #[])]) 1 (fun _ _=>rfl) (pO _)) ?_
 refine Rf.bY aa 0 3 rfl ?_
 refine Rf.aC 2 _ _ rfl (Pl.en Tryz.func13) (fun α γ w h=>aU 2 (ig _ b p lo hi hf)) ?_
 refine Rf.aV (.bool false) rfl (fun X=>aT _ X) ?_
 refine Rf.ay aa 4 rfl ?_
 refine Rf.ah (v:=.bool false) (fun X=>bM (by omega) X) rfl ?_
 refine Rf.ay aa 4 rfl ?_
 refine Rf.ah (v:=.bool true) (fun X=>bS (by omega) X) rfl ?_
 refine Rf.bY aa 1 4 rfl ?_
 refine Rf.gU (.a [vI 0,vF,vN,vI 0]) rfl rfl rfl (fun _ _=>rfl) (fun α γ X=>by kernel_rfl) ?_
 refine Rf.HY aa 0 4 rfl ?_
 exact Rf.aaa aa rfl (fun α γ w h=>⟨rfl,h.ex⟩)
theorem abJ (w:World) (va:Value) (q:Rat) (L M:Nat) (ha:Qn w va q L M) (b p:Nat) (lo hi:Int) (hf:fT b p lo hi) (z9:Int) (hz:z9<0∨5≤z9) :
  Calls Tryz.prog 30 #[va,.agg #[.int .i64 ((b:Nat):Int),.int .i64 ((p:Nat):Int),.int .i64 lo,.int .i64 hi],.int .i64 z9] w fun e w'=>e = .returned (.tuple #[.agg #[.int .i64 0,.bool false,.slice none 0 0,.int .i64 0],.int .i64 1])∧Pl.Ex w w':=by
 rcases hz with hz | hz
 · exact abC w va q L M ha b p lo hi hf z9 hz
 · exact abD w va q L M ha b p lo hi hf z9 hz
theorem abE (w:World) (va:Value) (q:Rat) (L M:Nat) (ha:Qn w va q L M) (b p:Nat) (lo hi:Int) (hf:fT b p lo hi) (z9:Int) (hz:z9<0) :
  Calls Tryz.prog 31 #[va,.agg #[.int .i64 ((b:Nat):Int),.int .i64 ((p:Nat):Int),.int .i64 lo,.int .i64 hi],.int .i64 z9] w fun e w'=>e = .returned (.tuple #[.agg #[.int .i64 0,.bool false,.slice none 0 0,.int .i64 0],.int .i64 1])∧Pl.Ex w w':=by
 obtain ⟨Aa,ca,Ba,ba,rfl,ua,ta,za,ya⟩:=ha
 refine Rf.aA (n:=126) [.a [.c 0 0,.c 0 1,.c 0 2],.a [vI ((b:Nat):Int),vI ((p:Nat):Int),vI lo,vI hi],vI z9] [[.bool (decide (Rat.num q<0)),.slice Aa (limbs (Rat.num q).natAbs).length ca,.slice Ba (limbs (Rat.den q)).length ba]] [(0,(pI q L M).S)] Tryz.func31 rfl (by kernel_rfl) rfl rfl ⟨RS.in ⟨Aa,ca,Ba,ba,rfl,ua,ta,za,ya⟩,trivial⟩ ?_
 refine Rf.bu aa 1 0 rfl ?_
 refine Rf.aC 1 _ _ rfl (Pl.en Tryz.func14) (fun α γ w h=>aU 1 (dh _ b p lo hi hf)) ?_
 refine Rf.aV (.bool false) rfl (fun X=>aT _ X) ?_
 refine Rf.ay aa 3 rfl ?_
 refine Rf.ah (v:=.bool true) (fun X=>bL hz X) rfl ?_
 refine Rf.bY aa 1 3 rfl ?_
 refine Rf.gU (.a [vI 0,vF,vN,vI 0]) rfl rfl rfl (fun _ _=>rfl) (fun α γ X=>by kernel_rfl) ?_
 refine Rf.HY aa 0 3 rfl ?_
 exact Rf.aaa aa rfl (fun α γ w h=>⟨rfl,h.ex⟩)
theorem abF (w:World) (va:Value) (q:Rat) (L M:Nat) (ha:Qn w va q L M) (b p:Nat) (lo hi:Int) (hf:fT b p lo hi) (z9:Int) (hz:5≤z9) :
  Calls Tryz.prog 31 #[va,.agg #[.int .i64 ((b:Nat):Int),.int .i64 ((p:Nat):Int),.int .i64 lo,.int .i64 hi],.int .i64 z9] w fun e w'=>e = .returned (.tuple #[.agg #[.int .i64 0,.bool false,.slice none 0 0,.int .i64 0],.int .i64 1])∧Pl.Ex w w':=by
 obtain ⟨Aa,ca,Ba,ba,rfl,ua,ta,za,ya⟩:=ha
 refine Rf.aA (n:=126) [.a [.c 0 0,.c 0 1,.c 0 2],.a [vI ((b:Nat):Int),vI ((p:Nat):Int),vI lo,vI hi],vI z9] [[.bool (decide (Rat.num q<0)),.slice Aa (limbs (Rat.num q).natAbs).length ca,.slice Ba (limbs (Rat.den q)).length ba]] [(0,(pI q L M).S)] Tryz.func31 rfl (by kernel_rfl) rfl rfl ⟨RS.in ⟨Aa,ca,Ba,ba,rfl,ua,ta,za,ya⟩,trivial⟩ ?_
 refine Rf.bu aa 1 0 rfl ?_
 refine Rf.aC 1 _ _ rfl (Pl.en Tryz.func14) (fun α γ w h=>aU 1 (dh _ b p lo hi hf)) ?_
 refine Rf.aV (.bool false) rfl (fun X=>aT _ X) ?_
 refine Rf.ay aa 3 rfl ?_
 refine Rf.ah (v:=.bool false) (fun X=>bM (by omega) X) rfl ?_
 refine Rf.ay aa 3 rfl ?_
 refine Rf.ah (v:=.bool true) (fun X=>jR (by omega) X) rfl ?_
 refine Rf.bY aa 1 3 rfl ?_
 refine Rf.gU (.a [vI 0,vF,vN,vI 0]) rfl rfl rfl (fun _ _=>rfl) (fun α γ X=>by kernel_rfl) ?_
 refine Rf.HY aa 0 3 rfl ?_
 exact Rf.aaa aa rfl (fun α γ w h=>⟨rfl,h.ex⟩)
theorem abK (w:World) (va:Value) (q:Rat) (L M:Nat) (ha:Qn w va q L M) (b p:Nat) (lo hi:Int) (hf:fT b p lo hi) (z9:Int) (hz:z9<0∨5≤z9) :
  Calls Tryz.prog 31 #[va,.agg #[.int .i64 ((b:Nat):Int),.int .i64 ((p:Nat):Int),.int .i64 lo,.int .i64 hi],.int .i64 z9] w fun e w'=>e = .returned (.tuple #[.agg #[.int .i64 0,.bool false,.slice none 0 0,.int .i64 0],.int .i64 1])∧Pl.Ex w w':=by
 rcases hz with hz | hz
 · exact abE w va q L M ha b p lo hi hf z9 hz
 · exact abF w va q L M ha b p lo hi hf z9 hz
theorem aaL (w:World) (m0:Bool) (vp:Value) (zs0:List Nat) (up:U w vp zs0) (vd:Value) (ds0:List Nat) (ud:U w vd ds0) (r9 p9 l9 h9:Int) (z9:Int) (hz:z9<0∨5≤z9) :
  Calls Tryz.prog 4 #[.agg #[.bool m0,vp,vd],.agg #[.int .i64 r9,.int .i64 p9,.int .i64 l9,.int .i64 h9],.int .i64 z9] w fun e w'=>e = .returned (.bool true)∧Pl.Ex w w':=by
 obtain ⟨Ap,cp,rfl,-⟩:=U.shape up
 obtain ⟨Ad,cd,rfl,-⟩:=U.shape ud
 obtain ⟨w9,wH⟩:∃ q,fB m0 zs0 ds0=q:=⟨_,rfl⟩
 obtain ⟨b,hb⟩:∃ x,dw r9=x:=⟨_,rfl⟩
 obtain ⟨p,hp⟩:∃ x,fu p9=x:=⟨_,rfl⟩
 obtain ⟨lo,hlo⟩:∃ x,dY l9=x:=⟨_,rfl⟩
 obtain ⟨hi,hhi⟩:∃ x,fD l9 h9=x:=⟨_,rfl⟩
 have hfm:=jM r9 p9 l9 h9
 rw [hb,hp,hlo,hhi] at hfm
 obtain ⟨hf,Fw,Fx,Fy⟩:=hfm
 have f1:=hf.p1
 have f2:=hf.ku
 have f3:=hf.l
 have f4:=hf.l1
 have f5:=hf.h1
 have hb2:=hf.b2
 have hw4:Sz w9.num 4:=by rw [← wH];exact zg (Sz.sn (Sz.cut up false 4 4 (Nat.le_refl 4))) (Sz.sn (Sz.cut ud false 4 4 (Nat.le_refl 4)))
 refine Rf.aA (n:=61) [.a [vB m0,.c 0 0,.c 1 0],.a [vI r9,vI p9,vI l9,vI h9],vI z9] [[.slice Ap (List.length zs0) cp],[.slice Ad (List.length ds0) cd]] [(0,(eU zs0).S),(1,(eU ds0).S)] Tryz.func4 rfl (by kernel_rfl) rfl rfl ⟨RS.in up,RS.in ud,trivial⟩ ?_
 refine Rf.bu aa 1 0 rfl ?_
 refine Rf.aC 2 _ _ rfl (Pl.en Tryz.func12) (fun α γ w h=>aU 2 (iO _)) ?_
 refine Rf.HY aa 0 2 rfl ?_
 refine Rf.aQ none fo ?_
 refine Rf.aD aa 8 2 rfl ?_
 refine Rf.ak 3 (pI w9 4 4) (.a [.c 3 0,.c 3 1,.c 3 2]) rfl (Pl.en Tryz.func28) (fun α γ w h=>by have h9:=gP _ _ _ m0 zs0 ds0 (h.r 0 rfl) (h.r 1 rfl);rw [wH] at h9;exact iP 3 h9) ?_
 refine Rf.aD aa 8 2 rfl ?_
 refine Rf.ak 4 (TR) (.a [vI ((b:Nat):Int),vI ((p:Nat):Int),vI lo,vI hi]) rfl (Pl.en Tryz.func29) (fun α γ w h=>xE (.a [vI ((b:Nat):Int),vI ((p:Nat):Int),vI lo,vI hi]) 4 (fun _ _=>rfl) (by have h9:=iq w r9 p9 l9 h9;rw [hb,hp,hlo,hhi] at h9;exact h9)) ?_
 refine Rf.aD aa 8 2 rfl ?_
 refine Rf.aW (by kernel_rfl) ?_
 refine Rf.aP [2,4,6,7,8,9] [1,2,3] [3] rfl ?_
 refine Rf.bu aa 0 4 rfl ?_
 refine Rf.aC 5 (TR) (.t [.a [vI 0,vF,vN,vI 0],vI 1]) rfl (Pl.en Tryz.func30) (fun α γ w h=>xE (.t [.a [vI 0,vF,vN,vI 0],vI 1]) 5 (fun _ _=>rfl) (abJ w _ _ _ _ (h.r 3 rfl) b p lo hi hf z9 hz)) ?_
 refine Rf.bY aa 0 4 rfl ?_
 refine Rf.aC 6 (TR) (.t [.a [vI 0,vF,vN,vI 0],vI 1]) rfl (Pl.en Tryz.func31) (fun α γ w h=>xE (.t [.a [vI 0,vF,vN,vI 0],vI 1]) 6 (fun _ _=>rfl) (abK w _ _ _ _ (h.r 3 rfl) b p lo hi hf z9 hz)) ?_
 refine Rf.bY aa 0 5 rfl ?_
 refine Rf.aC 7 (TR) (.t [.a [vI 0,vF,vN,vI 0],vI 1]) rfl (Pl.en Tryz.func30) (fun α γ w h=>xE (.t [.a [vI 0,vF,vN,vI 0],vI 1]) 7 (fun _ _=>rfl) (aaD w _ _ _ _ (h.r 3 rfl) r9 p9 l9 h9)) ?_
 refine Rf.bY aa 0 6 rfl ?_
 refine Rf.aC 8 _ _ rfl (Pl.en Tryz.func21) (fun α γ w h=>aU 8 (bH w _ _ (.zero false) (.zero false) (Fv.mk (w:=w) (s:=.slice none 0 0) (x:=(.zero false)) (iA _)) (Fv.mk (w:=w) (s:=.slice none 0 0) (x:=(.zero false)) (iA _)) rfl)) ?_
 refine Rf.ay aa 7 rfl ?_
 refine Rf.ah (v:=.bool true) (fun X=>aM (by decide) X) rfl ?_
 refine Rf.ay aa 7 rfl ?_
 refine Rf.ah (v:=.bool true) (fun X=>aM (by decide) X) rfl ?_
 refine Rf.ay aa 7 rfl ?_
 refine Rf.gU (.a [vI 0,vF,vN,vI 0]) rfl rfl rfl (fun _ _=>rfl) (fun α γ X=>by kernel_rfl) ?_
 refine Rf.aC 9 _ _ rfl (Pl.en Tryz.func21) (fun α γ w h=>aU 9 (bH w _ _ (.zero false) (.zero false) (Fv.mk (w:=w) (s:=.slice none 0 0) (x:=(.zero false)) (iA _)) (Fv.mk (w:=w) (s:=.slice none 0 0) (x:=(.zero false)) (iA _)) rfl)) ?_
 refine Rf.HY aa 0 7 rfl ?_
 exact Rf.aaa aa rfl (fun α γ w h=>⟨rfl,h.ex⟩)
theorem aa4 (w:World) (m0:Bool) (vp:Value) (zs0:List Nat) (up:U w vp zs0) (vd:Value) (ds0:List Nat) (ud:U w vd ds0) (r9 p9 l9 h9:Int) (d:Nat) (hd:d<5) :
  Calls Tryz.prog 4 #[.agg #[.bool m0,vp,vd],.agg #[.int .i64 r9,.int .i64 p9,.int .i64 l9,.int .i64 h9],.int .i64 ((d:Nat):Int)] w fun e w'=>e = .returned (.bool true)∧Pl.Ex w w':=by
 obtain ⟨Ap,cp,rfl,-⟩:=U.shape up
 obtain ⟨Ad,cd,rfl,-⟩:=U.shape ud
 obtain ⟨w9,wH⟩:∃ q,fB m0 zs0 ds0=q:=⟨_,rfl⟩
 obtain ⟨b,hb⟩:∃ x,dw r9=x:=⟨_,rfl⟩
 obtain ⟨p,hp⟩:∃ x,fu p9=x:=⟨_,rfl⟩
 obtain ⟨lo,hlo⟩:∃ x,dY l9=x:=⟨_,rfl⟩
 obtain ⟨hi,hhi⟩:∃ x,fD l9 h9=x:=⟨_,rfl⟩
 have hfm:=jM r9 p9 l9 h9
 rw [hb,hp,hlo,hhi] at hfm
 obtain ⟨hf,Fw,Fx,Fy⟩:=hfm
 have f1:=hf.p1
 have f2:=hf.ku
 have f3:=hf.l
 have f4:=hf.l1
 have f5:=hf.h1
 have hb2:=hf.b2
 have hw4:Sz w9.num 4:=by rw [← wH];exact zg (Sz.sn (Sz.cut up false 4 4 (Nat.le_refl 4))) (Sz.sn (Sz.cut ud false 4 4 (Nat.le_refl 4)))
 obtain ⟨y9,ve⟩:∃ x,rd b p lo hi d w9=x:=⟨_,rfl⟩
 refine Rf.aA (n:=61) [.a [vB m0,.c 0 0,.c 1 0],.a [vI r9,vI p9,vI l9,vI h9],vI ((d:Nat):Int)] [[.slice Ap (List.length zs0) cp],[.slice Ad (List.length ds0) cd]] [(0,(eU zs0).S),(1,(eU ds0).S)] Tryz.func4 rfl (by kernel_rfl) rfl rfl ⟨RS.in up,RS.in ud,trivial⟩ ?_
 refine Rf.bu aa 1 0 rfl ?_
 refine Rf.aC 2 _ _ rfl (Pl.en Tryz.func12) (fun α γ w h=>aU 2 (iO _)) ?_
 refine Rf.HY aa 0 2 rfl ?_
 refine Rf.aQ none fo ?_
 refine Rf.aD aa 8 2 rfl ?_
 refine Rf.ak 3 (pI w9 4 4) (.a [.c 3 0,.c 3 1,.c 3 2]) rfl (Pl.en Tryz.func28) (fun α γ w h=>by have h9:=gP _ _ _ m0 zs0 ds0 (h.r 0 rfl) (h.r 1 rfl);rw [wH] at h9;exact iP 3 h9) ?_
 refine Rf.aD aa 8 2 rfl ?_
 refine Rf.ak 4 (TR) (.a [vI ((b:Nat):Int),vI ((p:Nat):Int),vI lo,vI hi]) rfl (Pl.en Tryz.func29) (fun α γ w h=>xE (.a [vI ((b:Nat):Int),vI ((p:Nat):Int),vI lo,vI hi]) 4 (fun _ _=>rfl) (by have h9:=iq w r9 p9 l9 h9;rw [hb,hp,hlo,hhi] at h9;exact h9)) ?_
 refine Rf.aD aa 8 2 rfl ?_
 refine Rf.aW (by kernel_rfl) ?_
 refine Rf.aP [2,4,6,7,8,9] [1,2,3] [3] rfl ?_
 refine Rf.bu aa 0 4 rfl ?_
 refine Rf.aC 5 (dW (mn y9)) (.t [.a [vI (kd y9),vB (ng y9),.c 5 0,vI (xp y9)],vI 0]) rfl (Pl.en Tryz.func30) (fun α γ w h=>dP 5 (by have h9:=aR w _ w9 (Qn.le (h.r 3 rfl) (by decide) (by decide)) b p lo hi hf d hd;rw [ve] at h9;exact h9)) ?_
 refine Rf.bY aa 0 4 rfl ?_
 refine Rf.aC 6 (dW (mn y9)) (.t [.a [vI (kd y9),vB (ng y9),.c 6 0,vI (xp y9)],vI 0]) rfl (Pl.en Tryz.func31) (fun α γ w h=>dP 6 (by have h9:=abr w _ w9 4 4 (h.r 3 rfl) b p lo hi hf d hd 38 (by omega) (fun f h=>by have:=J9 hb2 (Sz.le hw4 (by decide)) h;omega) (by decide) (by decide) (by decide) (by decide);rw [ve] at h9;exact h9)) ?_
 refine Rf.bY aa 0 5 rfl ?_
 refine Rf.aC 7 (TR) (.t [.a [vI 0,vF,vN,vI 0],vI 1]) rfl (Pl.en Tryz.func30) (fun α γ w h=>xE (.t [.a [vI 0,vF,vN,vI 0],vI 1]) 7 (fun _ _=>rfl) (aaD w _ _ _ _ (h.r 3 rfl) r9 p9 l9 h9)) ?_
 refine Rf.bY aa 0 6 rfl ?_
 refine Rf.aC 8 _ _ rfl (Pl.en Tryz.func21) (fun α γ w h=>aU 8 (bH w _ _ y9 y9 (Fv.mk (x:=y9) (h.r 5 rfl)) (Fv.mk (x:=y9) (h.r 6 rfl)) rfl)) ?_
 refine Rf.ay aa 7 rfl ?_
 refine Rf.ah (v:=.bool true) (fun X=>aM (by decide) X) rfl ?_
 refine Rf.ay aa 7 rfl ?_
 refine Rf.ah (v:=.bool true) (fun X=>aM (by decide) X) rfl ?_
 refine Rf.ay aa 7 rfl ?_
 refine Rf.gU (.a [vI 0,vF,vN,vI 0]) rfl rfl rfl (fun _ _=>rfl) (fun α γ X=>by kernel_rfl) ?_
 refine Rf.aC 9 _ _ rfl (Pl.en Tryz.func21) (fun α γ w h=>aU 9 (bH w _ _ (.zero false) (.zero false) (Fv.mk (w:=w) (s:=.slice none 0 0) (x:=(.zero false)) (iA _)) (Fv.mk (w:=w) (s:=.slice none 0 0) (x:=(.zero false)) (iA _)) rfl)) ?_
 refine Rf.HY aa 0 7 rfl ?_
 exact Rf.aaa aa rfl (fun α γ w h=>⟨rfl,h.ex⟩)
theorem aag (w:World) (m0:Bool) (vp:Value) (zs0:List Nat) (up:U w vp zs0) (vd:Value) (ds0:List Nat) (ud:U w vd ds0) (r9 p9 l9 h9:Int) (z9:Int) :
  Calls Tryz.prog 4 #[.agg #[.bool m0,vp,vd],.agg #[.int .i64 r9,.int .i64 p9,.int .i64 l9,.int .i64 h9],.int .i64 z9] w fun e w'=>e = .returned (.bool true)∧Pl.Ex w w':=by
 by_cases h:z9<0∨5≤z9
 · exact aaL w m0 vp zs0 up vd ds0 ud r9 p9 l9 h9 z9 h
 · obtain ⟨d,rfl⟩:=Int.eq_ofNat_of_zero_le (show 0≤z9 by omega)
   exact aa4 w m0 vp zs0 up vd ds0 ud r9 p9 l9 h9 d (by omega)
end Go.Proofs.YtgcieamfidoaoaaGreatDoor
namespace Go.Proofs.YtgcieamfidoaoaaGreatDoor
open Go.ChangeShapes Go.WideShapes Go.ChangeAt Go.RowKit
set_option maxRecDepth 100000
theorem aae (os:Os) (started:os.Started) (H:Type) (enc:TypeId × Value→H) :
  ReturnsInHanded {} Tryz.checked os 4 .any (fun w args=>(Rows.formatRoundsSpec.pre enc Tryz.prog Tryz.f4 [] false w args∧laidMetH Tryz.prog jY w)∧sizedMet enc Tryz.prog Tryz.f4 (OpenSpec.ofChange Rows.formatRoundsSpec) false w args)
   (Rows.formatRoundsSpec.post enc Tryz.prog Tryz.f4 false true false false):=by
 refine returnsInHanded_of_change_and (C:=Tryz.checked) (X:=fun w _=>laidMetH Tryz.prog jY w) (fun _ _ _ hh h=>h.of_heap hh) own started (by kernel_rfl) Tryz.func4
  (ChangeSpec.witness_shaped (enc:=enc) (C:=Tryz.checked) (os:=os) (X:=fun w _=>laidMetH Tryz.prog jY w) false (World.doorLaid Tryz.prog 400 os) #[.agg #[.bool false,.slice none 0 0,.slice none 0 0],.agg #[.int .i64 0,.int .i64 0,.int .i64 0,.int .i64 0],.int .i64 0] 8 rfl (World.shaped_of_RefB (by kernel_rfl) (by kernel_rfl)) (by kernel_rfl) (by kernel_rfl) (by kernel_rfl) (l5 os _)) ?_
 intro W base args ds gs before hval0 hW _ _ hL _
 have hval:∀ (j:Nat) t v,Tryz.f4.params[j]?=some t→args[j]?=some v→Value.okWide Tryz.prog W .any base t v:=hval0
 have hW':=hW
 obtain ⟨p,q,JR,hV,rfl,hfz,hnd⟩:=hW
 have hA:DataW.TrodAll enc Tryz.prog W 0 (fun _=>true) true Tryz.f4.params.toList args.toList ds p:=JR
 rw [Tryz.params4] at hA hval
 clear JR hval0
 obtain ⟨v0,vs0,d0,ds0,p0,q0,FB,rfl,rfl,h0,r0⟩:=trodAll_cons hA
 obtain ⟨v1,vs1,d1,ds1,p1,q1,rF,rfl,rfl,h1,r1⟩:=trodAll_cons r0
 obtain ⟨v2,vs2,d2,UX,p2,q2,wI,rfl,rfl,h2,r2⟩:=trodAll_cons r1
 obtain ⟨hn1,rfl,rfl⟩:=trodAll_nil r2
 subst hn1
 subst wI
 subst rF
 obtain rfl:args=#[v0,v1,v2]:=by cases args;simp_all
 obtain ⟨rfl,rfl⟩:=trodVars_none hV
 obtain ⟨s0,A0,c0,x0,D0,b0,y0,hv0,u0,t0⟩:=Co (hval 0 36 v0 rfl rfl) h0
 subst hv0
 obtain ⟨a1,YG,l1,g1,hv1⟩:=qA (hval 1 23 v1 rfl rfl) h1
 subst hv1
 obtain ⟨z2,rfl,rfl,rfl,hz2⟩:=open_int Tryz.underlying3 (hval 2 3 v2 rfl rfl) h2
 refine (aag W s0 _ x0 u0 _ y0 t0 a1 YG l1 g1 z2).mono fun e W' ⟨he,hB⟩=>?_
 subst he
 exact ⟨_,rfl,l6 hW' rfl (by rw [Tryz.params4];decide +kernel) rfl rfl rfl rfl hB⟩
theorem aah:Rows.FormatRoundsSaid :=
 OpenClaim.holds_of_wide 4 Tryz.f4 rfl rfl rfl rfl rfl rfl rfl ⟨rfl,rfl,rfl,rfl,rfl⟩ rfl rfl rfl rfl rfl (by kernel_rfl) Tryz.func4 (by kernel_rfl)
  (of_decide_eq_true (by kernel_rfl)) (by unfold Func.isWrapper;first | (rw [if_pos (by decide +kernel)];kernel_rfl) | (rw [if_neg (by decide +kernel)];exact ⟨rfl,rfl⟩))
  (fun os started H enc _=>aae os started H enc)
theorem formatRounds_holds:Rows.FormatRoundsCardSaid :=
 Claim7.holds_tied_plain_at .later [] [.wider] true Rows.formatRoundsCard.stood.harness false
  aah (fun _ h=>by cases h) (by kernel_rfl) (fun _ h=>by cases h) formatRounds_row_tie rfl ⟨rfl,rfl⟩ (by kernel_rfl) rfl
  (fun f fn hf hfn=>by
   obtain rfl:f = 4 := Option.some.inj ((show Tryz.prog.funcNamed "ziggurat/zigguratlaw22.FormatRounds" = some 4 by kernel_rfl).symm.trans hf) |>.symm
   obtain rfl:fn=Tryz.f4 := (Option.some.inj (Tryz.func4.symm.trans hfn)).symm
   exact ⟨by kernel_rfl,fun j t ht=>by
    rw [Tryz.params4] at ht
    have hm:t∈[36,23,3]:=by simpa using Array.mem_of_getElem? ht
    have hall:([36,23,3].all fun u=>!Tryz.prog.wantsStandIn u)=true:=by kernel_rfl
    exact (show Tryz.prog.wantsStandIn t=false by simpa using List.all_eq_true.1 hall t hm)⟩)
  (by kernel_rfl)
end Go.Proofs.YtgcieamfidoaoaaGreatDoor
