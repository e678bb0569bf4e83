/- Proved: the statement FormatBeside: neighbours. No condition. -/
import Derived.Test.YtgcieamfidoaoaaGreatDoorBaa
import Derived.Test.YtgcieamfidoaoaaGreatDoorBab
import Derived.Test.YtgcieamfidoaoaaGreatDoorBad
import Derived.Test.YtgcieamfidoaoaaGreatDoorBag
import Derived.Test.YtgcieamfidoaoaaGreatDoorBaf
import Derived.Test.YtgcieamfidoaoaaGreatDoorBaj
import Derived.Test.YtgcieamfidoaoaaGreatDoorBae
import Derived.Test.YtgcieamfidoaoaaGreatDoorBak
import Derived.Test.YtgcieamfidoaoaaGreatDoorBal
import Derived.Test.YtgcieamfidoaoaaGreatDoorBan
import Derived.Test.YtgcieamfidoaoaaGreatDoorBao
import Derived.Test.YtgcieamfidoaoaaGreatDoorBap
import Derived.Test.YtgcieamfidoaoaaGreatDoorBar
import Derived.Test.YtgcieamfidoaoaaGreatDoorBah
import Derived.Test.YtgcieamfidoaoaaGreatDoorBam
import Derived.Test.YtgcieamfidoaoaaGreatDoorBax
import Derived.Test.YtgcieamfidoaoaaGreatDoorBaq
import Derived.Test.YtgcieamfidoaoaaGreatDoorBay
import Derived.Test.YtgcieamfidoaoaaGreatDoorBaz
import Derived.Deep.MidRow
import Derived.Deep.WholeRow
import Derived.Laws.CopyOwn
import Derived.WalkKit
import Derived.Laws.EntriesVeiled
import Derived.Deep.AppendSrc
import Derived.Lib.AppendZeros
import Derived.Laws.IdiomStrings
import Derived.Laws.StructEq
import Derived.SevenTiedAt
import Derived.LaidMore
import Derived.Stop.Joined
import Derived.JoinedOf
import Derived.JoinedAt
import Derived.Lib.SmallJoins
import Derived.Laws.IdiomArrays
import Derived.WideKeyPair
import Derived.WideKeyArr2
import Derived.Deep.Cut
import Derived.Deep.RegionHeld3

set_option linter.all false
set_option maxHeartbeats 8000000
namespace Go.Proofs.YtgcieamfidoaoaaGreatDoor.Pl
open Go
set_option maxRecDepth 100000
theorem w32 {z:Int} (h1:0≤z) (h2:z<4294967296):IntKind.u32.wrap z=z:=by
 simp only [IntKind.wrap,IntKind.signed,IntKind.bits];simp;omega
section
variable {P:Program} {T:TypeId} {x y:Operand} {k k':IntKind} {a b c:Int} {v:Bool}
theorem rY (h0:b≠0) (h:a.tmod b=c) (X:World):Bn P .rem T x y (.int k a) (.int k b) X = .ok (.int k c) X:=by
 subst h;simp [Bn,eqGuard,binOp,Op.intDiv,h0]
end
section
variable {P:Program} {L:List Oper} {S:World→Prop} {K:List (Nat × Value)→World→Prop} {k:Bool} {i m d:Nat} {o:Oper} {r:List (Bool × Nat × Nat)} {l:List (Nat × Value)} {w w':World} {v:Value}
theorem xI {x:Operand} {s t:TypeId} {kd kd':IntKind} {a c:Int} (hu:P.underlying t=some (.int kd')) (hs:(P.underlying s).isSome=true) (h1:kd'.wrap a=c) (hS:S w) (ho:nth L i=some o) (hop:o.op = .convert s t x) (hd:o.dst=some d) (hg:gd L l o.guard=some true) (hx:dK l x=some (.int kd a))
  (h:fF P L S K r ((d,.int kd' c)::l) w):fF P L S K ((k,i,m)::r) l w :=
 fO hS ho hd hg (fun ρ hρ X _=>by
  obtain ⟨sd,hs⟩:=Option.isSome_iff_exists.1 hs
  unfold execOp;rw [hop]
  refine dI _ X ?_
  rw [hρ.dK hx]
  subst h1
  simp [convert,run_underlying hs,run_underlying hu,Conv.intToInt]) h
def Fj (A:Option Addr) (l h c s:Nat):Value:=.slice (if c=l then A else A.map (·.add (l*s))) (h-l) (c-l)
end
end Go.Proofs.YtgcieamfidoaoaaGreatDoor.Pl
namespace Go.Proofs.YtgcieamfidoaoaaGreatDoor.Pl
open Go Go.RowKit
set_option maxRecDepth 100000
theorem Xs.drop {Bs Cs:List Nat} {w w':World} (h:Xs Bs w w') (hs:∀ k∈Bs,k∈Cs∨w.heap.size≤k):Xs Cs w w':=⟨h.os,h.tape,h.output,h.size,fun k hk hn=>h.block k hk fun hb=>by
 rcases hs k hb with h1 | h1
 · exact hn h1
 · omega⟩
def Sl (w:World) (lo:Nat) (v:Value) (n:Nat) (xs:List Value):Prop:=∃ A c,v = .slice A n c∧n≤c∧c≤9223372036854775807 ∧
 (0<xs.length→∃ ad,A=some ad∧lo≤ad.block∧ad.block<w.heap.size∧∀ j u,xs[j]?=some u→w.cell? (ad.add j)=some u)
theorem Sl.xs {w w':World} {lo n:Nat} {v:Value} {xs:List Value} {Bs:List Nat} (h:Sl w lo v n xs) (k:Xs Bs w w') (hB:∀ b∈Bs,b<lo∨w.heap.size≤b):Sl w' lo v n xs:=by
 obtain ⟨A,c,h1,h2,h3,h4⟩:=h
 refine ⟨A,c,h1,h2,h3,fun h0=>?_⟩
 obtain ⟨ad,e,hl,hb,hc⟩:=h4 h0
 refine ⟨ad,e,hl,Nat.lt_of_lt_of_le hb k.size,fun j u hj=>?_⟩
 rw [← hc j u hj]
 refine World.cell?_of_block (k.block _ (by rw [eZ];exact hb) ?_)
 intro hm
 rw [eZ] at hm
 rcases hB _ hm with h5 | h5<;>omega
where eZ {a:Addr} {j:Nat}:(a.add j).block=a.block:=by unfold Addr.add;split<;>rfl
theorem Sl.at {w:World} {lo n c:Nat} {A:Option Addr} {xs:List Value} (h:Sl w lo (.slice A n c) n xs) {j:Nat} {u:Value} (hj:xs[j]?=some u):∃ ad,A=some ad∧w.cell? (ad.add j)=some u:=by
 obtain ⟨A',c',h1,h2,h3,h4⟩:=h
 cases h1
 obtain ⟨ad,e,_,_,hc⟩:=h4 (by have:=(List.getElem?_eq_some_iff.1 hj).1;omega)
 exact ⟨ad,e,hc j u hj⟩
theorem Sl.cut {w:World} {lo n c s:Nat} {A:Option Addr} {xs:List Value} (h:Sl w lo (.slice A n c) n xs) (hx:xs.length=n*s) {l k:Nat} (h1:l≤k) (h2:k≤n) :
  Sl w lo (Fj A l k c s) (k-l) ((xs.drop (l*s)).take ((k-l)*s)):=by
 obtain ⟨A',c',he,hn,hc,h4⟩:=h
 cases he
 refine ⟨_,_,rfl,by omega,by omega,fun h0=>?_⟩
 have hlen:((xs.drop (l*s)).take ((k-l)*s)).length≤(k-l)*s:=by rw [List.length_take];exact Nat.min_le_left _ _
 have hkl:l<k:=by
  rcases Nat.lt_or_ge l k with h | h
  · exact h
  · have hz:(k-l)*s=0:=by rw [show k-l=0 by omega,Nat.zero_mul]
    omega
 have hpos:0<xs.length:=by rw [List.length_take,List.length_drop] at h0;omega
 obtain ⟨ad,rfl,hl,hb,hcell⟩:=h4 hpos
 have hne:c≠l:=by omega
 rw [if_neg hne]
 refine ⟨ad.add (l*s),rfl,by rw [Sl.xs.eZ];exact hl,by rw [Sl.xs.eZ];exact hb,fun j u hj=>?_⟩
 have e:(ad.add (l*s)).add j=ad.add (l*s+j):=by
  unfold Addr.add
  by_cases hi:l*s=0<;>by_cases hj:j=0<;>simp [hi,hj,Nat.add_assoc]
 rw [e]
 refine hcell _ u ?_
 rw [List.getElem?_take] at hj
 split at hj
 · rwa [List.getElem?_drop] at hj
 · cases hj
end Go.Proofs.YtgcieamfidoaoaaGreatDoor.Pl
namespace Go.Proofs.YtgcieamfidoaoaaGreatDoor.Pl
open Go Go.RowKit
set_option maxRecDepth 100000
theorem a64 {a b:Nat} {x y:Int} (hx:x=(a:Int)) (hy:y=(b:Int)) (h:a+b≤9223372036854775807):IntKind.i64.wrap (x+y)=((a+b:Nat):Int):=by
 subst hx hy;rw [oC (by omega) (by omega)];omega
end Go.Proofs.YtgcieamfidoaoaaGreatDoor.Pl
namespace Go.Proofs.YtgcieamfidoaoaaGreatDoor.Rf
open Go Go.RowKit Go.Proofs.YtgcieamfidoaoaaGreatDoor.Pl
set_option maxRecDepth 100000
section
variable {P:Program} {Q:Exit→Act→World→Prop} {n:Nat} {ds:List Deferred} {w0:World} {cs:List Code} {l:Fr} {B:Bx} {Γ:Gm}
theorem rz {L:List Oper} {r:nu} {i m d:Nat} {o:Oper} {x y:Operand} {op:BinOp} {tx ty:TypeId} {u u':Value} {p:Prop} {ip:Decidable p} (hr:∀ X,Bn P op tx x y u u' X = .ok (.bool (decide p)) X) (ho:nth L i=some o) (hop:o.op = .binOp op tx x y ty) (hd:o.dst=some d) (hg:jT L l o.guard=some true) (hx:ev l x=some (.v u)) (hy:ev l y=some (.v u'))
  (h1:p→HA P Q n ds w0 cs L r ((d,.v (.bool true))::l) B Γ) (h2:¬ p→HA P Q n ds w0 cs L r ((d,.v (.bool false))::l) B Γ):HA P Q n ds w0 cs L ((false,i,m)::r) l B Γ:=by
 by_cases hp:p
 · exact Cc (fun X=>by rw [hr X,decide_eq_true hp]) ho hop hd hg hx hy (h1 hp)
 · exact Cc (fun X=>by rw [hr X,decide_eq_false hp]) ho hop hd hg hx hy (h2 hp)
end
end Go.Proofs.YtgcieamfidoaoaaGreatDoor.Rf
namespace Go.Proofs.YtgcieamfidoaoaaGreatDoor
open Go.ChangeShapes Go.WideShapes Go.ChangeAt Go.RowKit
set_option maxRecDepth 100000
theorem laidOut:laidOutB Tryz.prog=true:=by kernel_rfl
abbrev jY:List (String × DataW Unit):=[("ziggurat/ntt.fields",Rows.laid_ziggurat_ntt_fields)]
theorem l5 (os:Os) (args:Array Value):laidMetH Tryz.prog jY ((World.doorLaid Tryz.prog 400 os).forCall (fun _ _=>0) ⟨#[],args,[]⟩).memory :=
 laidMetH_of_parts3 (fuel:=8) (laidMet_of_run' 8 (by kernel_rfl) (by kernel_rfl)) (by kernel_rfl) (by kernel_rfl)
theorem eB {H:Type} {enc:TypeId × Value→H} {W W':World} {sp:Nat→Bool} (hB:Ext W W'):∀ {ts:List TypeId} {vs:List Value} {ds:List (DataW H)} {ps:List MemPlace},
  (∀ t∈ts,Tryz.prog.readableRec t=true∧t<Tryz.prog.types.size)→DataW.TrodAll enc Tryz.prog W 0 (fun _=>true) true ts vs ds ps→(∀ p∈ps,p.block<W.heap.size)→(∀ p∈ps,sp p.block=true)→DataW.TrodAll enc Tryz.prog W' 0 sp true ts vs ds ps
 | [],[],[],_,_,h,_,_=>h
 | t::_,_::_,_::_,_,hT,⟨p,q,h1,h2,e⟩,hlt,hs=>⟨p,q,
  WideElems.Trod_stays laidOut (hT t (List.mem_cons_self ..)).1 (hT t (List.mem_cons_self ..)).2 h1 (fun x hx=>Below.same hB (hlt x (by rw [e];exact List.mem_append_left _ hx))) (fun x hx=>hs x (by rw [e];exact List.mem_append_left _ hx)),
  eB hB (fun t ht=>hT t (List.mem_cons_of_mem _ ht)) h2 (fun x hx=>hlt x (by rw [e];exact List.mem_append_right _ hx)) (fun x hx=>hs x (by rw [e];exact List.mem_append_right _ hx)),e⟩
theorem l6 {H:Type} {enc:TypeId × Value→H} {f:Func} {s:ChangeSpec} {apart fresh handsOn again:Bool} {W W':World} {args:Array Value} {ds gs:List (DataW H)} {before:List MemPlace}
  (hW:DataW.Whole enc Tryz.prog f.params.toList s.vars apart W args.toList ds gs before) (hv:s.vars=[]) (hT:∀ t∈f.params.toList,Tryz.prog.readableRec t=true∧t<Tryz.prog.types.size)
  (hres:f.resultTypes=#[4]) (hfn:(s.fn H (ds++gs)).results=[.lit (.bool true)]) (hfa:(s.fn H (ds++gs)).args=ds) (UD:(s.fn H (ds++gs)).vars=[]) (hB:Ext W W') :
  s.post enc Tryz.prog f apart fresh handsOn again W args (.bool true) W':=by
 have hlt:∀ p∈before,p.block<W.heap.size:=fun p hp=>hW.lt p hp
 have hold:∀ p∈before,(fun b=>decide (b<W.heap.size)) p.block=true:=fun p hp=>by simpa using hlt p hp
 have hres':∀ (b:Nat) (sp:Nat→Bool) (hd:Bool),DataW.TrodAll enc Tryz.prog W' b sp hd f.resultTypes.toList ((Value.bool true).resultList f.resultTypes.size) (s.fn H (ds++gs)).results []:=by
  intro b sp hd
  rw [hres,hfn]
  exact trodAll_mk1 (shut_bool Tryz.underlying4 _)
 have hW2:=hW
 obtain ⟨p,q,hA,hV,hpq,hz,hn⟩:=hW
 rw [hv] at hV
 obtain ⟨_,rfl⟩:=trodVars_none hV
 rw [List.append_nil] at hpq
 subst hpq
 have hargs:∀ sp:Nat→Bool,(∀ p'∈before,sp p'.block=true)→DataW.TrodAll enc Tryz.prog W' 0 sp true f.params.toList args.toList (s.fn H (ds++gs)).args before:=fun sp hs=>by
  rw [hfa];exact eB hB hT hA hlt hs
 have hvars:∀ sp:Nat→Bool,DataW.TrodVars enc Tryz.prog W' sp s.vars (s.fn H (ds++gs)).vars []:=fun sp=>by rw [hv,UD];exact rfl
 refine ⟨ds,gs,before,[],before,[],hW2,hres' _ _ _,hargs _ hold,hvars _,World.keptBut_mono (fun p hp=>⟨hp,?_⟩) (Below.frame hB (·∈before)),fun _=>?_⟩
 · simpa using hp
 · refine ⟨ok_one hres rfl (okWide_bool_mk Tryz.underlying4 _),_,_,([]++before)++[],⟨[]++before,[],trodAll_append (hargs _ (fun _ _=>rfl)) (hres' _ _ _),hvars _,rfl,?_,?_⟩,?_⟩
   · intro b off hp
     have hin:MemPlace.cell b off∈before:=by simpa using hp
     rw [Below.frozen hB (hlt _ hin)]
     exact hz b off hin
   · intro ha
     have:=hn ha
     simpa using this
   · intro p hp _
     simpa using hp
end Go.Proofs.YtgcieamfidoaoaaGreatDoor
namespace Go.Proofs.YtgcieamfidoaoaaGreatDoor
open Go.RowKit
set_option maxRecDepth 100000
def aS (xs:List Nat) (k:Nat):Nat:=val (xs.take k)
theorem l7 (xs:List Nat) (k:Nat) (hx:∀ x∈xs,x<4294967296):(limbs (aS xs k)).length≤k:=by
 apply gH
 have:=mQ (xs.take k) (fun x h=>hx x (List.mem_of_mem_take h))
 refine Nat.lt_of_lt_of_le this (Nat.pow_le_pow_right (by decide) ?_)
 rw [List.length_take];omega
theorem jK (w:World) (v:Value) (xs:List Nat) (k:Int) (hk0:0≤k) (hk1:k≤1000000000) (h:U w v xs) :
  Calls Tryz.prog 65 #[v,.int .i64 k] w fun e w'=>(∃ u,e = .returned u∧Un w' u (aS xs k.toNat))∧Below w.heap.size w w':=by
 have h':=h
 obtain ⟨A,c,rfl,⟨hc,hm⟩,hx,hr⟩:=h
 clear hr
 by_cases hl:(xs.length:Int)≤k
 · have hu:=dZ w _ xs h' (by omega)
   have HT:Hid (xs.take k.toNat=xs):=List.take_of_length_le (by omega)
   have hmin:min (xs.length:Int) k=xs.length:=by omega
   go_enter Tryz.func65,Tryz.ntmps65
   go_wp2_with (go_at_call 100;refine hu.mono ?_;rintro e w' ⟨⟨z,rfl,hz⟩,hB⟩)
   go_ret
   exact ⟨⟨_,rfl,by rw [Un,aS,HT.out];exact hz⟩,hB⟩
 · obtain ⟨k,rfl⟩:=Int.eq_ofNat_of_zero_le hk0
   have hu:=dZ w _ _ (h'.take (k:=k) (c':=c) (by omega) (by omega)) (by rw [List.length_take];omega)
   have hmin:min (xs.length:Int) (k:Int)=k:=by omega
   go_enter Tryz.func65,Tryz.ntmps65
   go_wp2_with (go_at_call 100;refine hu.mono ?_;rintro e w' ⟨⟨z,rfl,hz⟩,hB⟩)
   go_ret
   exact ⟨⟨_,rfl,by rw [Un,aS,Int.toNat_natCast];exact hz⟩,hB⟩
end Go.Proofs.YtgcieamfidoaoaaGreatDoor
namespace Go.Proofs.YtgcieamfidoaoaaGreatDoor
open Go.RowKit
set_option maxRecDepth 100000
theorem iJ (w:World) (v:Value) (xs:List Nat) (k:Int) (h:U w v xs) (hk0:0≤k) (hk1:k≤1000000000) (n:Nat) (hn:aS xs k.toNat=n) :
  Calls Tryz.prog 65 #[v,.int .i64 k] w fun e w'=>∃ u,e = .returned u∧Un w' u n∧Ext w w':=by
 subst hn
 exact (jK w v xs k hk0 hk1 h).mono fun e w' ⟨⟨u,he,hu⟩,hb⟩=>⟨u,he,hu,hb⟩
end Go.Proofs.YtgcieamfidoaoaaGreatDoor
namespace Go.Proofs.YtgcieamfidoaoaaGreatDoor
open Go.RowKit
set_option maxRecDepth 100000
theorem jL (w:World) (v:Value) (xs:List Nat) (h:U w v xs) :
  Calls Tryz.prog 46 #[v] w fun e w'=>e = .returned (.bool (fG xs))∧w=w':=by
 obtain ⟨A,c,rfl,⟨hc,hm⟩,hx,hr⟩:=h
 by_cases hlen:xs.length≤65536
 · rcases Nat.eq_zero_or_pos xs.length with h0 | h0
   · obtain rfl:=List.eq_nil_of_length_eq_zero h0
     go_enter Tryz.func46,Tryz.ntmps46
     go_wp2
     go_ret
     exact ⟨rfl,rfl⟩
   · obtain ⟨ad,rfl,hb,hcell⟩:=hr h0
     have hc1:=hcell (xs.length-1) (by omega)
     have hne:(((xs.length:Nat):Int)==0)=false:=by rw [beq_eq_false_iff_ne];omega
     have hres:fG xs=(lb xs (xs.length-1) != 0):=by
      unfold fG
      have:xs.isEmpty=false:=by cases xs<;>simp_all
      simp [hlen,this]
     have HR:=Lib.hid hres
     clear hres
     go_enter Tryz.func46,Tryz.ntmps46
     go_wp2
     go_ret
     exact ⟨by rw [HR.out,← bne_cast];rfl,rfl⟩
 · have hres:fG xs=false:=by unfold fG;simp [hlen]
   have hne:(((xs.length:Nat):Int)==0)=false:=by rw [beq_eq_false_iff_ne];omega
   have HR:=Lib.hid hres
   clear hres
   go_enter Tryz.func46,Tryz.ntmps46
   go_wp2
   go_ret
   exact ⟨by rw [HR.out];rfl,rfl⟩
end Go.Proofs.YtgcieamfidoaoaaGreatDoor
namespace Go.Proofs.YtgcieamfidoaoaaGreatDoor
open Go.RowKit
set_option maxRecDepth 100000
theorem fH (w:World) (va vb:Value) (gV bs:List Nat) (na nb:Nat) (ha:U w va gV) (hb:U w vb bs) (hna:gV.length=na) (hnb:bs.length=nb) (hn1:na≤1000) (hn2:nb≤1000) :
  Calls Tryz.prog 82 #[va,vb] w fun e w'=>(∃ u,e = .returned u∧Un w' u (val gV*val bs))∧Ext w w':=by
 obtain ⟨A,ca,rfl,⟨hca,hma⟩,hxl,Io⟩:=id ha
 obtain ⟨A2,cb,rfl,⟨hcb,hmb⟩,hyl,Ip⟩:=id hb
 have HL:Hid (gV.length=na∧bs.length=nb):=⟨hna,hnb⟩
 have QJ:=Lib.hid (fun k=>eP bs k)
 have QK:=Lib.hid (fun k=>eP gV k)
 have HT2:Hid (bs.take nb=bs∧gV.take na=gV):=⟨by rw [← hnb];exact List.take_length,by rw [← hna];exact List.take_length⟩
 rw [hna] at hca hma Io ⊢
 rw [hnb] at hcb hmb Ip ⊢
 obtain ⟨n,hnn⟩:∃ n,na+nb=n:=⟨_,rfl⟩
 have hni:(na:Int)+(nb:Int)=(n:Int):=by omega
 obtain ⟨i0,hi,hz0,hz1,hz2⟩:=info_parts oJ
 obtain ⟨B,hB⟩:∃ B,w.heap.size=B:=⟨_,rfl⟩
 have yM:=Lib.hid hB
 clear ha hb hna hnb
 go_enter Tryz.func82,Tryz.ntmps82
 go_wp2_with (at_make;refine wpList_make_full _ rfl _ _ 24 rfl w.heap.size 57 i0 (.int .u32 0) 1 Tryz.underlying24 hi hz0 hz1 _ _ _ _ n rfl rfl (by omega) (by omega) (by rw [hz2];omega) (by unfold maxLen;omega) (Nat.le_refl _) ?_;intro w1 hown hgrow)
 have ho0:Own w1 w.heap.size (.slice (some ⟨w.heap.size,0,none⟩) n n) (List.replicate n 0):=by
  have:=Own.zeros hown
  rwa [List.length_replicate] at this
 have hE0:Ext w w1:=(Ext.refl w).grown hgrow (Nat.le_refl _) (fun _ h=>by cases h)
 rw [hB] at ho0
 clear hown hgrow hi hz0 hz1 hz2 i0
 have hS0:Hid (GZ bs gV n 0 (List.replicate n 0)):=⟨by simp,fun x hx=>by simp at hx;omega,by simp [dM,val],fun m _=>jq _ _⟩
 go_wp2
 go_loopw [6] (fun t wr=>∃ (i:Nat) (o:List Nat),i≤na∧t = .int .i64 (i:Nat)∧Hid (GZ bs gV n i o)∧Own wr B (.slice (some ⟨B,0,none⟩) n n) o∧Ext w wr) (fun t _=>na-(intOf t).toNat)
 case atStart=>exact ⟨0,_,Nat.zero_le _,rfl,hS0,ho0,hE0⟩
 case round =>
  clear hS0 ho0 hE0
  obtain ⟨i,o,hib,rfl,HO,hown,hE⟩:=hrel
  by_cases hlt:i<na
  · obtain ⟨ad,rfl,hb1,hcell1⟩:=Io (by omega)
    have hyb:=dz hxl i
    have hty:=QK.out i (by rw [HL.out.1];exact hlt)
    obtain ⟨y,yL⟩:∃ y,lb gV i=y:=⟨_,rfl⟩
    rw [yL] at hyb hty
    have HY:=Lib.hid yL
    have Iq:Hid (Kg o n i (val o+LB^i*(val (bs.take 0)*y)) 0 o 0):=⟨HO.out.len,HO.out.lt,by decide,by simp [val],fun m _=>rfl⟩
    have sO:Hid (val (gV.take (i+1))=val (gV.take i)+LB^i*y):=hty
    have hno:Hid (lb o (i+nb)=0):=HO.out.out _ (by rw [HL.out.2];exact Nat.le_refl _)
    clear yL hty
    go_wp2
    go_loopw [8,7] (fun t s wx=>∃ (j:Nat) (o2:List Nat) (cy:Nat),j≤nb∧t = .int .i64 (j:Nat)∧s = .int .u64 (cy:Nat)∧Hid (Kg o n i (val o+LB^i*(val (bs.take j)*y)) j o2 cy)∧Own wx B (.slice (some ⟨B,0,none⟩) n n) o2∧Ext w wx) (fun t _ _=>nb-(intOf t).toNat)
    case atStart=>exact ⟨0,o,0,Nat.zero_le _,rfl,rfl,Iq,hown,hE⟩
    case round =>
     clear Iq hown hE
     obtain ⟨j,o2,cy,hj,rfl,rfl,HW,hown,hE⟩:=hrel
     by_cases hjt:j<nb
     · obtain ⟨Ir,rfl,hb2,hcell2⟩:=Ip (by omega)
       have hc0:=(hE.cell (p:=ad.add i) (by rw [aL];exact hb1)).trans (hcell1 i hlt)
       rw [HY.out] at hc0
       have hc1:=(hE.cell (p:=Ir.add j) (by rw [aL];exact hb2)).trans (hcell2 j hjt)
       have hxb:=dz hyl j
       have htk:=QJ.out j (by rw [HL.out.2];exact hjt)
       have hcz:=hown.rd.2 (i+j) (by rw [HW.out.len];omega)
       have hf:=hown.frozen' (i+j)
       have hzb:=dz HW.out.lt (i+j)
       have hcy:=HW.out.Bz
       obtain ⟨x,BG⟩:∃ x,lb bs j=x:=⟨_,rfl⟩
       rw [BG] at hc1 hxb htk
       obtain ⟨z,hzz⟩:∃ z,lb o2 (i+j)=z:=⟨_,rfl⟩
       rw [hzz] at hcz hzb
       obtain ⟨t,ht⟩:∃ t,x*y=t:=⟨_,rfl⟩
       have ht1:t≤18446744065119617025:=by rw [← ht];exact El hxb hyb
       have hti:(y:Int)*(x:Int)=(t:Int):=by rw [← ht,Int.natCast_mul,Int.mul_comm]
       obtain ⟨u,hu⟩:∃ u,cy+(t+z)=u:=⟨_,rfl⟩
       obtain ⟨s,hs⟩:∃ s,u%4294967296=s:=⟨_,rfl⟩
       obtain ⟨d,hd⟩:∃ d,u/4294967296=d:=⟨_,rfl⟩
       obtain ⟨hm,hsb,hdb,hub,htz⟩:=oD t z cy s d u ht1 hzb hcy hu hs hd
       have hst:=HW.out.step (by omega) t s d (by rw [hzz];exact hm) hsb hdb
       rw [Nat.add_assoc (val o),Nat.pow_add,Nat.mul_assoc,← Nat.mul_add,← ht,← Nat.mul_assoc,← Nat.add_mul,← htk] at hst
       have HST:=Lib.hid hst
       have hown2:=hown.set' (i+j) s
       have hE2:=hE.setCell (p:=⟨B,i+j,none⟩) (by rw [yM.out];exact Nat.le_refl _) (.int .u32 (s:Nat))
       have q1:IntKind.u64.wrap (t:Int)=(t:Int):=by rw [IntKind.wrap_u64];omega
       have q2:IntKind.u64.wrap ((t:Int)+(z:Int))=(t:Int)+(z:Int):=by rw [IntKind.wrap_u64];omega
       have q3:(t:Int)+(z:Int)+(cy:Int)=(u:Int):=by omega
       have q4:IntKind.u64.wrap (u:Int)=(u:Int):=by rw [IntKind.wrap_u64];omega
       have q5:IntKind.u32.wrap (u:Int)=(s:Int):=by rw [IntKind.wrap_u32];omega
       have q6:(u:Int)%4294967296=(s:Int):=by omega
       have q7:(u:Int)/4294967296=(d:Int):=by omega
       have q8:IntKind.u64.wrap (x:Int)=(x:Int):=by rw [IntKind.wrap_u64];omega
       have q9:IntKind.u64.wrap (y:Int)=(y:Int):=by rw [IntKind.wrap_u64];omega
       have q10:IntKind.u64.wrap (z:Int)=(z:Int):=by rw [IntKind.wrap_u64];omega
       have q11:(u:Int)%18446744073709551616=(u:Int):=by omega
       have q12:(t:Int)%18446744073709551616=(t:Int):=by omega
       have q13:((t:Int)+(z:Int))%18446744073709551616=(t:Int)+(z:Int):=by omega
       have q14:IntKind.i64.wrap ((i:Int)+(j:Int))=(i:Int)+(j:Int):=IntWalk.i64_in _ (by omega)
       have q15:(0:Int)≤(i:Int)+(j:Int):=by omega
       have q16:(i:Int)+(j:Int)<(n:Int):=by omega
       have q17:((i:Int)+(j:Int)).toNat=i+j:=by omega
       have q18:(0:Int)≤(i:Int):=by omega
       have q19:(i:Int)<(na:Int):=by omega
       have q20:(0:Int)≤(j:Int):=by omega
       have q21:(j:Int)<(nb:Int):=by omega
       clear hst htk BG hzz ht hu hs hd hm HW hxb hzb ht1 hcy hown2 hE2
       have HOWN:=Lib.hid hown
       have UE:=Lib.hid hE
       clear hown hE
       go_wp2_with (fail)
       go_quiet (fail)
       have hown2:=(HOWN.out.ext (iF wr nq)).set' (i+j) s
       have hE2:=(UE.out.below (iF wr nq)).setCell (p:=⟨B,i+j,none⟩) (by rw [yM.out];exact Nat.le_refl _) (.int .u32 (s:Nat))
       go_wp2
       go_roundw
       case rel=>exact ⟨j+1,_,d,by omega,by go_num,rfl,HST,hown2,hE2⟩
       case measure=>simp [intOf];omega
     · obtain rfl:j=nb:=by omega
       have hcz:=hown.rd.2 (i+j) (by rw [HW.out.len];omega)
       have hf:=hown.frozen' (i+j)
       have hl0:lb o2 (i+j)=0:=by rw [HW.out.out _ (Nat.le_refl _)];exact hno.out
       have hws:=oN o2 (i+j) cy (by rw [HW.out.len];omega)
       rw [hl0,Nat.mul_zero,Nat.add_zero,HW.out.val,HT2.out.1] at hws
       have qx:(Value.int .u32 (lb o2 (i+j):Nat)) = .int .u32 0:=by rw [hl0];rfl
       rw [qx] at hcz
       have sP:=HW.out.Bz
       have q5:IntKind.u32.wrap (cy:Int)=(cy:Int):=by rw [IntKind.wrap_u32];omega
       have q6:(cy:Int)%4294967296=(cy:Int):=by omega
       have hown2:=hown.set' (i+j) cy
       have hE2:=hE.setCell (p:=⟨B,i+j,none⟩) (by rw [yM.out];exact Nat.le_refl _) (.int .u32 (cy:Nat))
       have HST:Hid (GZ bs gV n (i+1) (o2.set (i+j) cy)):=by
        refine ⟨by rw [List.length_set];exact HW.out.len,iQ HW.out.lt sP,?_,fun m hm=>?_⟩
        · rw [hws,sO.out,Nat.mul_add,← HO.out.val,Nat.mul_left_comm]
        · rw [HL.out.2] at hm
          rw [dA _ (by omega),HW.out.out _ (by omega)]
          exact HO.out.out m (by rw [HL.out.2];omega)
       have g12:(i:Int)+(j:Int)<(n:Int):=by omega
       have g13:i+j<n:=by omega
       clear hl0 hws qx hown hE HW sP sO hno
       go_wp2
       go_roundw
       case rel=>exact ⟨i+1,_,by omega,by go_num,HST,hown2,hE2⟩
       case measure=>simp [intOf];omega
  · obtain rfl:i=na:=by omega
    have hu:=hown.BJ HO.out.lt (by rw [HO.out.len];omega)
    have hvv:=HO.out.val
    rw [HT2.out.2,Nat.mul_comm] at hvv
    have HV:=Lib.hid hvv
    have hol:=HO.out.len
    clear hown HO hvv
    go_wp2_with (fail)
    refine (dZ _ _ _ hu (by omega)).mono ?_
    rintro e w2 ⟨⟨u,rfl,hu2⟩,hB2⟩
    rw [HV.out] at hu2
    have hE2:=hE.below hB2
    have HF:Hid (∃ u',Ending.returned u = .returned u'∧Un w2 u' (val gV*val bs)):=⟨_,rfl,hu2⟩
    clear hu2 hu hB2
    go_wp2
    go_ret
    exact ⟨HF.out,hE2⟩
end Go.Proofs.YtgcieamfidoaoaaGreatDoor
namespace Go.Proofs.YtgcieamfidoaoaaGreatDoor
open Go.RowKit
set_option maxRecDepth 100000
theorem kD (w:World) (v:Value) (xs:List Nat) (h:U w v xs) (b:Bool) (hb:fG xs=b) :
  Calls Tryz.prog 46 #[v] w fun e w'=>e = .returned (.bool b)∧Ext w w' :=
 (jL w v xs h).mono fun e w' ⟨he,hw⟩=>⟨by rw [he,hb],by rw [← hw];exact Ext.refl w⟩
end Go.Proofs.YtgcieamfidoaoaaGreatDoor
namespace Go.Proofs.YtgcieamfidoaoaaGreatDoor
open Go.RowKit
set_option maxRecDepth 100000
theorem Sz.lit {z:Int} {K:Nat} (h:z.natAbs<4294967296) (hk:1≤K):Sz z K:=Nat.le_trans (kN (k:=1) (by rw [Nat.pow_one];exact h)) hk
end Go.Proofs.YtgcieamfidoaoaaGreatDoor
namespace Go.Proofs.YtgcieamfidoaoaaGreatDoor
open Go.RowKit
set_option maxRecDepth 100000
theorem Sz.cut {w:World} {v:Value} {xs:List Nat} (u:U w v xs) (b:Bool) (k K:Nat) (hk:k≤K):Sz (sg b (aS xs k)) K:=by
 show (limbs (sg b (aS xs k)).natAbs).length≤K
 rw [lZ]
 exact Nat.le_trans (l7 xs k u.lim) hk
end Go.Proofs.YtgcieamfidoaoaaGreatDoor
namespace Go.Proofs.YtgcieamfidoaoaaGreatDoor.Dy
set_option maxRecDepth 100000
def cl (v:Rat):Int := -(-v).floor
def UF (d:Nat) (v:Rat):Int :=
 if d=0 then v.floor else if d=1 then cl v
 else if d=2 then (if v<0 then cl v else v.floor)
 else if d=3 then (if v<0 then v.floor else cl v)
 else if v-v.floor<1/2 then v.floor else if 1/2<v-v.floor then cl v
 else if v.floor%2=0 then v.floor else cl v
def cut (d:Nat) (v:Rat) (n:Int):Rat:=dv (UF d (v*2^n)) (-n)
end Go.Proofs.YtgcieamfidoaoaaGreatDoor.Dy
namespace Go.Proofs.YtgcieamfidoaoaaGreatDoor.Rf
open Go Go.RowKit Go.Proofs.YtgcieamfidoaoaaGreatDoor.Pl
set_option maxRecDepth 100000
section
variable {P:Program} {Q:Exit→Act→World→Prop} {n:Nat} {ds:List Deferred} {w0:World} {cs:List Code} {l:Fr} {B:Bx} {Γ:Gm} {L:List Oper}
theorem oO {r:nu} {i m d:Nat} {o:Oper} {x:Operand} {s t:TypeId} {kd kd':IntKind} {a:Int} (c:Int) (hu:P.underlying t=some (.int kd')) (hs:(P.underlying s).isSome=true) (h1:kd'.wrap a=c) (ho:nth L i=some o) (hop:o.op = .convert s t x) (hd:o.dst=some d) (hg:jT L l o.guard=some true) (hx:ev l x=some (.v (.int kd a)))
 (h:HA P Q n ds w0 cs L r ((d,.v (.int kd' c))::l) B Γ):HA P Q n ds w0 cs L ((false,i,m)::r) l B Γ:=fun α γ w hH=>xI hu hs h1 trivial ho hop hd (gy hg α γ) (bT hx) (h α γ w hH)
end
section
variable {P:Program} {T:TypeId} {x y:Operand} {w:World} {f:Nat→Value} {p:Int→Prop}
theorem l8 (a b:Int) (X:World):Bn P .eql T x y (.int .i64 a) (.int .i64 b) X = .ok (.bool (decide (a=b))) X:=by
 by_cases h:a=b
 · rw [decide_eq_true h];exact aM h X
 · rw [decide_eq_false h];exact aK h X
end
end Go.Proofs.YtgcieamfidoaoaaGreatDoor.Rf
namespace Go.Proofs.YtgcieamfidoaoaaGreatDoor.Rf
open Go Go.RowKit Go.Proofs.YtgcieamfidoaoaaGreatDoor.Pl
set_option maxRecDepth 100000
section
variable {P:Program} {Q:Exit→Act→World→Prop} {n:Nat} {ds:List Deferred} {w0:World} {cs:List Code} {l:Fr} {B:Bx} {Γ:Gm} {L:List Oper}
theorem jZ {r:nu} {i m d:Nat} {o:Oper} {x y:Operand} {op:BinOp} {tx ty:TypeId} {u u':Value} {p:Prop} {ip:Decidable p} (hr:∀ X,Bn P op tx x y u u' X = .ok (.bool (decide p)) X)
  (e:(nth L i,o.op,o.dst,jT L l o.guard,ev l x,ev l y)=(some o,.binOp op tx x y ty,some d,some true,some (.v u),some (.v u')))
  (h1:p→HA P Q n ds w0 cs L r ((d,.v (.bool true))::l) B Γ) (h2:¬ p→HA P Q n ds w0 cs L r ((d,.v (.bool false))::l) B Γ):HA P Q n ds w0 cs L ((false,i,m)::r) l B Γ:=by
 simp only [Prod.mk.injEq] at e
 exact rz hr e.1 e.2.1 e.2.2.1 e.2.2.2.1 e.2.2.2.2.1 e.2.2.2.2.2 h1 h2
variable {ord:Option (List Nat)} {l0:Fr} {B0:Bx} {Γ0:Gm} {tr:Tr}
end
end Go.Proofs.YtgcieamfidoaoaaGreatDoor.Rf
namespace Go.Proofs.YtgcieamfidoaoaaGreatDoor.Fm
open Dy
set_option maxRecDepth 100000
theorem Nf.order {b p:Nat} (hb:2≤b) (hp:1≤p) {lo m e n f:Int} (h:Nf b p lo m e) (g:Nf b p lo n f):vl b m e<vl b n f↔e<f∨e=f∧m<n:=by
 constructor
 · intro hl
   rcases Int.lt_trichotomy e f with h1 | h1 | h1
   · exact .inl h1
   · subst h1;exact .inr ⟨rfl,(pU hb).1 hl⟩
   · exact absurd hl (Rat.not_lt.2 (Rat.le_of_lt (g.wC hb hp h h1)))
 · rintro (h1 | ⟨rfl,h1⟩)
   · exact h.wC hb hp g h1
   · exact (pU hb).2 h1
theorem Nf.wD {b p:Nat} (hb:2≤b) (hp:1≤p) {lo m e n f:Int} (h:Nf b p lo m e) (g:Nf b p lo n f):vl b n f≤vl b m e∨vl b (m+1) e≤vl b n f:=by
 have:=oP hb hp (h.fit hb) g
 rwa [y7 hb] at this
theorem Nf.under {b p:Nat} (hb:2≤b) (hp:1≤p) {lo e:Int} (he:lo<e):Nf b p lo (((b^p:Nat):Int)-1) (e-1)∧vl b (((b^p:Nat):Int)-1+1) (e-1)=vl b ((b^(p-1):Nat):Int) e:=by
 have h1:b^p=b^(p-1)*b:=by rw [← Nat.pow_succ,show (p-1).succ=p by omega]
 have hk:=Nat.pow_pos (n:=p-1) (show 0<b by omega)
 have h2:b^(p-1)*2≤b^p:=by rw [h1];exact Nat.mul_le_mul_left _ hb
 refine ⟨⟨by omega,by omega,by omega,.inr (by omega)⟩,?_⟩
 rw [show ((b^p:Nat):Int)-1+1=((b^p:Nat):Int) by omega,h1,Int.natCast_mul,QL hb,show e-1+1=e by omega]
theorem QM {b p:Nat} (hb:2≤b) (lo:Int):Fit b p lo 0 lo∧dg b 0 lo=0:=by
 have h:dg b 0 lo=0:=by unfold dg;rw [Rat.zero_mul];exact QN 0
 have hk:=Nat.pow_pos (n:=p) (show 0<b by omega)
 exact ⟨⟨Int.le_refl _,by rw [h];omega,.inl rfl⟩,h⟩
theorem Em {b p:Nat} (hb:2≤b) (hp:1≤p) {lo m e:Int} (h:Nf b p lo m e):vl b 1 lo≤vl b m e:=by
 obtain ⟨h1,h2⟩:=QM (p:=p) hb lo
 rcases oP hb hp h1 h with h3 | h3
 · rw [h2,nA] at h3
   exact absurd h3 (Rat.not_le.2 ((kX hb).2 h.2.1))
 · rw [h2] at h3;exact h3
theorem UG {b p:Nat} (hb:2≤b) (hp:1≤p) {lo m e:Int} (h:Nf b p lo m e) :
  ((lX b p lo m e).1=0∨Nf b p lo (lX b p lo m e).1 (lX b p lo m e).2)∧(lX b p lo m e).2≤e∧vl b ((lX b p lo m e).1+1) (lX b p lo m e).2=vl b m e ∧
  ∀ n f,Nf b p lo n f→vl b n f<vl b m e→vl b n f≤vl b (lX b p lo m e).1 (lX b p lo m e).2:=by
 obtain ⟨h1,h2,h3,h4⟩:=h
 unfold lX
 by_cases hc:lo<e∧m-1<((b^(p-1):Nat):Int)
 · rw [if_pos hc]
   obtain ⟨g1,g2⟩:=Nf.under (p:=p) hb hp hc.1
   have hm:m=((b^(p-1):Nat):Int):=by rcases h4 with h4 | h4<;>omega
   refine ⟨.inr g1,by show e-1≤e;omega,by rw [hm];exact g2,fun n f hn hl=>?_⟩
   rcases g1.wD hb hp hn with h5 | h5
   · exact h5
   · rw [g2,← hm] at h5
     exact absurd hl (Rat.not_lt.2 h5)
 · rw [if_neg hc]
   show (m-1=0∨Nf b p lo (m-1) e)∧e≤e∧vl b (m-1+1) e=vl b m e∧∀ n f,Nf b p lo n f→vl b n f<vl b m e→vl b n f≤vl b (m-1) e
   by_cases hz:m-1=0
   · have he:e=lo:=by
      rcases h4 with h4 | h4
      · exact h4
      · have hk:=Nat.pow_pos (n:=p-1) (show 0<b by omega)
        omega
     refine ⟨.inl hz,Int.le_refl _,by rw [show m-1+1=m by omega],fun n f hn hl=>?_⟩
     have h5:=Em hb hp hn
     rw [show m=1 by omega,he] at hl
     exact absurd hl (Rat.not_lt.2 h5)
   · have g:Nf b p lo (m-1) e:=⟨h1,by omega,by omega,by rcases h4 with h4 | h4;exact .inl h4;(by_cases he:lo<e;exact .inr (by omega);exact .inl (by omega))⟩
     refine ⟨.inr g,Int.le_refl _,by rw [show m-1+1=m by omega],fun n f hn hl=>?_⟩
     rcases g.wD hb hp hn with h5 | h5
     · exact h5
     · rw [show m-1+1=m by omega] at h5
       exact absurd hl (Rat.not_lt.2 h5)
theorem Ob (b p:Nat) (lo hi m e:Int):fE b p lo hi (.fin false m e)=if (nK b p (m+1) e).2≤hi then .fin false (nK b p (m+1) e).1 (nK b p (m+1) e).2 else .inf false:=rfl
theorem En (b p:Nat) (lo hi m e:Int):fE b p lo hi (.fin true m e)=if (lX b p lo m e).1=0 then .zero true else .fin true (lX b p lo m e).1 (lX b p lo m e).2:=rfl
theorem Fp {b p:Nat} (hb:2≤b) (hp:1≤p) {lo hi m e:Int} (hl:lo≤hi) (h:Nf b p lo m e) (he:e≤hi):ext b p hi (fE b p lo hi (.fin false m e))=vl b (m+1) e∧bO b p lo hi (fE b p lo hi (.fin false m e)):=by
 have hv:=oQ hb hp (m+1) e
 have hn:=h.next hb hp
 rw [Ob]
 split
 · next h1=>exact ⟨hv,hn,h1⟩
 · next h1 =>
   refine ⟨?_,trivial⟩
   unfold nK at h1
   split at h1
   · next h2 =>
     have h1:¬ e+1≤hi:=h1
     obtain rfl:e=hi:=by omega
     rw [h2];rfl
   · exact absurd he h1
theorem uN {b p:Nat} (hb:2≤b) (hp:1≤p) {lo hi:Int} (hl:lo≤hi) {x:Fl} (hx:bO b p lo hi x) (hi0:x≠.inf false) :
  bO b p lo hi (fE b p lo hi x)∧ext b p hi x<ext b p hi (fE b p lo hi x)∧∀ y,bO b p lo hi y→ext b p hi x<ext b p hi y→ext b p hi (fE b p lo hi x)≤ext b p hi y:=by
 have htp:=oh (p:=p) hb hi
 have hG:=nL (b:=b) (p:=p) hb hp hl
 have hGt:=hG.gT hb (Int.le_refl hi)
 have pos:∀ {m e:Int},Nf b p lo m e→0<vl b m e:=fun h=>(kX hb).2 h.2.1
 have one:Nf b p lo 1 lo:=by
  have h1:1<b^p:=Nat.one_lt_pow (by omega) (by omega)
  exact ⟨Int.le_refl _,by omega,by omega,.inl rfl⟩
 cases x with
 | zero n =>
  refine ⟨⟨one,hl⟩,pos one,fun y hy hlt=>?_⟩
  show vl b 1 lo≤_
  cases y with
  | zero k=>exact absurd hlt Rat.lt_irrefl
  | fin k m e =>
   have:=pos hy.1
   cases k with
   | false=>exact Em hb hp hy.1
   | true=>exact absurd (show (0:Rat) < -vl b m e from hlt) (Rat.not_lt.2 (by grind))
  | inf k =>
   cases k with
   | false=>exact Rat.le_of_lt (one.gT hb hl)
   | true=>exact absurd (show (0:Rat) < -vl b ((b^p:Nat):Int) hi from hlt) (Rat.not_lt.2 (by grind))
 | inf n =>
  cases n with
  | false=>exact absurd rfl hi0
  | true =>
   refine ⟨⟨hG,Int.le_refl _⟩,show -vl b ((b^p:Nat):Int) hi < -vl b (((b^p:Nat):Int)-1) hi by grind,fun y hy hlt=>?_⟩
   show -vl b (((b^p:Nat):Int)-1) hi≤_
   have hg0:=pos hG
   cases y with
   | zero k=>show _≤(0:Rat);grind
   | fin k m e =>
    have h1:=pos hy.1
    have h2:=hy.1.wE hb hp hl hy.2
    cases k with
    | false=>show _≤vl b m e;grind
    | true=>show _ ≤ -vl b m e;grind
   | inf k =>
    cases k with
    | false=>show _≤vl b ((b^p:Nat):Int) hi;grind
    | true=>exact absurd hlt Rat.lt_irrefl
 | fin n m e =>
  have hx0:=pos hx.1
  cases n with
  | false =>
   obtain ⟨h1,h2⟩:=Fp hb hp hl hx.1 hx.2
   refine ⟨h2,by rw [h1];exact (pU hb).2 (by omega),fun y hy hlt=>?_⟩
   rw [h1]
   have hlt:vl b m e<ext b p hi y:=hlt
   cases y with
   | zero k=>exact absurd (show vl b m e<0 from hlt) (Rat.not_lt.2 (Rat.le_of_lt hx0))
   | fin k n f =>
    have h3:=pos hy.1
    cases k with
    | false =>
     rcases hx.1.wD hb hp hy.1 with h4 | h4
     · exact absurd (show vl b m e<vl b n f from hlt) (Rat.not_lt.2 h4)
     · exact h4
    | true=>exact absurd (show vl b m e < -vl b n f from hlt) (Rat.not_lt.2 (by grind))
   | inf k =>
    cases k with
    | false =>
     have h3:=hx.1.2.2.1
     show vl b (m+1) e≤vl b ((b^p:Nat):Int) hi
     exact Rat.le_trans ((pV hb).2 (by omega)) (Fq hb (m:=((b^p:Nat):Int)) (by omega) hx.2)
    | true=>exact absurd (show vl b m e < -vl b ((b^p:Nat):Int) hi from hlt) (Rat.not_lt.2 (by grind))
  | true =>
   obtain ⟨h1,h2,h3,h4⟩:=UG hb hp hx.1
   have hE:ext b p hi (fE b p lo hi (.fin true m e)) = -vl b (lX b p lo m e).1 (lX b p lo m e).2:=by
    rw [En]
    by_cases hz:(lX b p lo m e).1=0
    · rw [if_pos hz,hz,nA]
      show (0:Rat) = -0
      grind
    · rw [if_neg hz];rfl
   have hlow:vl b (lX b p lo m e).1 (lX b p lo m e).2<vl b m e:=by rw [← h3];exact (pU hb).2 (by omega)
   have agv:0≤vl b (lX b p lo m e).1 (lX b p lo m e).2:=by
    rcases h1 with h1 | h1
    · rw [h1,nA];exact Rat.le_refl
    · exact Rat.le_of_lt (pos h1)
   refine ⟨?_,?_,fun y hy hlt=>?_⟩
   · rw [En]
     by_cases hz:(lX b p lo m e).1=0
     · rw [if_pos hz];trivial
     · rw [if_neg hz]
       have hx2:=hx.2
       exact ⟨h1.resolve_left hz,by omega⟩
   · rw [hE];show -vl b m e<_;grind
   · rw [hE]
     have hlt : -vl b m e<ext b p hi y:=hlt
     cases y with
     | zero k=>show _≤(0:Rat);grind
     | fin k n f =>
      have h5:=pos hy.1
      cases k with
      | false=>show _≤vl b n f;grind
      | true =>
       have hlt : -vl b m e < -vl b n f:=hlt
       have:=h4 n f hy.1 (by grind)
       show _ ≤ -vl b n f
       grind
     | inf k =>
      cases k with
      | false=>show _≤vl b ((b^p:Nat):Int) hi;grind
      | true =>
       have h5:=hx.1.gT hb hx.2
       exact absurd (show -vl b m e < -vl b ((b^p:Nat):Int) hi from hlt) (Rat.not_lt.2 (by grind))
theorem Eo {b p:Nat} (hb:2≤b) (hp:1≤p) {lo hi:Int} (hl:lo≤hi) {x:Fl} (hx:bO b p lo hi x) (hi0:x≠.inf true) :
  bO b p lo hi (fV b p lo hi x)∧ext b p hi (fV b p lo hi x)<ext b p hi x∧∀ y,bO b p lo hi y→ext b p hi y<ext b p hi x→ext b p hi y≤ext b p hi (fV b p lo hi x):=by
 obtain ⟨h1,h2,h3⟩:=uN hb hp hl hx.turn (fun h=>hi0 (by rw [← qy x,h];rfl))
 unfold fV
 rw [jy] at h2
 rw [jy]
 refine ⟨h1.turn,by grind,fun y hy hlt=>?_⟩
 have:=h3 y.turn hy.turn (by rw [jy,jy];grind)
 rw [jy] at this
 grind
theorem UH {b p:Nat} (hb:2≤b) {lo hi:Int} {x:Fl} (hx:bO b p lo hi x) : -vl b ((b^p:Nat):Int) hi≤ext b p hi x∧ext b p hi x≤vl b ((b^p:Nat):Int) hi:=by
 have htp:=oh (p:=p) hb hi
 cases x with
 | zero n=>exact ⟨show _≤(0:Rat) by grind,show (0:Rat)≤_ by grind⟩
 | fin n m e =>
  have h1:=(kX hb (e:=e)).2 hx.1.2.1
  have h2:=hx.1.gT hb hx.2
  cases n with
  | false=>exact ⟨show _≤vl b m e by grind,show vl b m e≤_ by grind⟩
  | true=>exact ⟨show _ ≤ -vl b m e by grind,show -vl b m e≤_ by grind⟩
 | inf n =>
  cases n with
  | false=>exact ⟨show _≤vl b ((b^p:Nat):Int) hi by grind,Rat.le_refl⟩
  | true=>exact ⟨Rat.le_refl,show -vl b ((b^p:Nat):Int) hi≤_ by grind⟩
theorem next_prev {b p:Nat} (hb:2≤b) (hp:1≤p) {lo hi:Int} (hl:lo≤hi) {x:Fl} (hx:bO b p lo hi x) (hi0:x≠.inf false):ext b p hi (fV b p lo hi (fE b p lo hi x))=ext b p hi x:=by
 obtain ⟨h1,h2,h3⟩:=uN hb hp hl hx hi0
 have hlow:=(UH hb hx).1
 have hne:fE b p lo hi x≠.inf true:=fun h=>by
  rw [h] at h2
  have h2:ext b p hi x < -vl b ((b^p:Nat):Int) hi:=h2
  exact absurd h2 (Rat.not_lt.2 hlow)
 obtain ⟨g1,g2,g3⟩:=Eo hb hp hl h1 hne
 refine Rat.le_antisymm ?_ (g3 x hx h2)
 refine Rat.not_lt.1 fun h4=>?_
 have:=h3 _ g1 h4
 exact absurd g2 (Rat.not_lt.2 this)
theorem prev_next {b p:Nat} (hb:2≤b) (hp:1≤p) {lo hi:Int} (hl:lo≤hi) {x:Fl} (hx:bO b p lo hi x) (hi0:x≠.inf true):ext b p hi (fE b p lo hi (fV b p lo hi x))=ext b p hi x:=by
 have h:=next_prev hb hp hl hx.turn (fun h=>hi0 (by rw [← qy x,h];rfl))
 unfold fV at h ⊢
 rw [jy,jy] at h
 grind
end Go.Proofs.YtgcieamfidoaoaaGreatDoor.Fm
namespace Go.Proofs.YtgcieamfidoaoaaGreatDoor.Fm
open Dy
set_option maxRecDepth 100000
def bP (p q:Rat):Int:=if p<q then -1 else if q<p then 1 else 0
theorem bV {p q:Rat} (h:p<q):bP p q = -1:=if_pos h
theorem cB {p q:Rat} (h:q<p):bP p q=1:=by unfold bP;rw [if_neg (by grind),if_pos h]
theorem fP {p q:Rat} (h:p=q):bP p q=0:=by unfold bP;rw [if_neg (by grind),if_neg (by grind)]
theorem qz (p q:Rat):bP (-p) (-q) = -bP p q:=by
 rcases (show p<q∨p=q∨q<p by grind) with h | h | h
 · rw [bV h,cB (by grind)];rfl
 · rw [fP h,fP (by grind)];rfl
 · rw [cB h,bV (by grind)]
theorem xJ {n k:Bool} {m e j f:Int} (hm:0<m) (hj:0<j):Mc (.fin n m e) (.fin k j f)=if e<f then -1 else if f<e then 1 else if m<j then -1 else if j<m then 1 else 0:=by
 show (if (1:Int)<1 then -1 else if (1:Int)<1 then 1 else if e<f then -1 else if f<e then 1 else if m.natAbs<j.natAbs then -1 else if j.natAbs<m.natAbs then 1 else (0:Int))=_
 rw [if_neg (by omega),if_neg (by omega)]
 split
 · rfl
 · split
   · rfl
   · by_cases h:m<j
     · rw [if_pos h,if_pos (by omega)]
     · rw [if_neg h,if_neg (by omega)]
       by_cases h':j<m
       · rw [if_pos h',if_pos (by omega)]
       · rw [if_neg h',if_neg (by omega)]
theorem xK {b p:Nat} (hb:2≤b) (hp:1≤p) {lo:Int} {n k:Bool} {m e j f:Int} (h:Nf b p lo m e) (g:Nf b p lo j f):Mc (.fin n m e) (.fin k j f)=bP (vl b m e) (vl b j f):=by
 rw [xJ h.2.1 g.2.1]
 have h1:=Nf.order hb hp h g
 have h2:=Nf.order hb hp g h
 by_cases c1:e<f
 · rw [if_pos c1,bV (h1.2 (.inl c1))]
 · rw [if_neg c1]
   by_cases c2:f<e
   · rw [if_pos c2,cB (h2.2 (.inl c2))]
   · rw [if_neg c2]
     obtain rfl:e=f:=by omega
     by_cases c3:m<j
     · rw [if_pos c3,bV (h1.2 (.inr ⟨rfl,c3⟩))]
     · rw [if_neg c3]
       by_cases c4:j<m
       · rw [if_pos c4,cB (h2.2 (.inr ⟨rfl,c4⟩))]
       · rw [if_neg c4]
         obtain rfl:m=j:=by omega
         rw [fP rfl]
theorem gM {b p:Nat} (hb:2≤b) (hp:1≤p) {lo hi:Int} {x y:Fl} (hx:bO b p lo hi x) (hy:bO b p lo hi y):kJ x y=bP (ext b p hi x) (ext b p hi y):=by
 have ht:=oh (p:=p) hb hi
 have pos:∀ {m e:Int},Nf b p lo m e→0<vl b m e:=fun h=>(kX hb).2 h.2.1
 cases x with
 | zero n =>
  cases y with
  | zero k=>rfl
  | fin k m e =>
   have h1:=pos hy.1
   cases k with
   | true=>show (1:Int)=bP 0 (-vl b m e);rw [cB (by grind)]
   | false=>show (-1:Int)=bP 0 (vl b m e);rw [bV (by grind)]
  | inf k =>
   cases k with
   | true=>show (1:Int)=bP 0 (-vl b ((b^p:Nat):Int) hi);rw [cB (by grind)]
   | false=>show (-1:Int)=bP 0 (vl b ((b^p:Nat):Int) hi);rw [bV (by grind)]
 | fin n m e =>
  have h1:=pos hx.1
  have h2:=hx.1.gT hb hx.2
  cases y with
  | zero k =>
   cases n with
   | true=>show (-1:Int)=bP (-vl b m e) 0;rw [bV (by grind)]
   | false=>show (1:Int)=bP (vl b m e) 0;rw [cB (by grind)]
  | fin k j f =>
   have h3:=pos hy.1
   have h4:=xK (n:=n) (k:=k) hb hp hx.1 hy.1
   cases n with
   | true =>
    cases k with
    | true=>show (-1:Int)*Mc (.fin true m e) (.fin true j f)=bP (-vl b m e) (-vl b j f);rw [h4,qz];omega
    | false=>show (-1:Int)=bP (-vl b m e) (vl b j f);rw [bV (by grind)]
   | false =>
    cases k with
    | true=>show (1:Int)=bP (vl b m e) (-vl b j f);rw [cB (by grind)]
    | false=>show (1:Int)*Mc (.fin false m e) (.fin false j f)=bP (vl b m e) (vl b j f);rw [h4];omega
  | inf k =>
   cases n with
   | true =>
    cases k with
    | true=>show (1:Int)=bP (-vl b m e) (-vl b ((b^p:Nat):Int) hi);rw [cB (by grind)]
    | false=>show (-1:Int)=bP (-vl b m e) (vl b ((b^p:Nat):Int) hi);rw [bV (by grind)]
   | false =>
    cases k with
    | true=>show (1:Int)=bP (vl b m e) (-vl b ((b^p:Nat):Int) hi);rw [cB (by grind)]
    | false=>show (-1:Int)=bP (vl b m e) (vl b ((b^p:Nat):Int) hi);rw [bV (by grind)]
 | inf n =>
  cases y with
  | zero k =>
   cases n with
   | true=>show (-1:Int)=bP (-vl b ((b^p:Nat):Int) hi) 0;rw [bV (by grind)]
   | false=>show (1:Int)=bP (vl b ((b^p:Nat):Int) hi) 0;rw [cB (by grind)]
  | fin k j f =>
   have h3:=pos hy.1
   have h2:=hy.1.gT hb hy.2
   cases n with
   | true =>
    cases k with
    | true=>show (-1:Int)=bP (-vl b ((b^p:Nat):Int) hi) (-vl b j f);rw [bV (by grind)]
    | false=>show (-1:Int)=bP (-vl b ((b^p:Nat):Int) hi) (vl b j f);rw [bV (by grind)]
   | false =>
    cases k with
    | true=>show (1:Int)=bP (vl b ((b^p:Nat):Int) hi) (-vl b j f);rw [cB (by grind)]
    | false=>show (1:Int)=bP (vl b ((b^p:Nat):Int) hi) (vl b j f);rw [cB (by grind)]
  | inf k =>
   cases n with
   | true =>
    cases k with
    | true=>show (0:Int)=bP (-vl b ((b^p:Nat):Int) hi) (-vl b ((b^p:Nat):Int) hi);rw [fP rfl]
    | false=>show (-1:Int)=bP (-vl b ((b^p:Nat):Int) hi) (vl b ((b^p:Nat):Int) hi);rw [bV (by grind)]
   | false =>
    cases k with
    | true=>show (1:Int)=bP (vl b ((b^p:Nat):Int) hi) (-vl b ((b^p:Nat):Int) hi);rw [cB (by grind)]
    | false=>show (0:Int)=bP (vl b ((b^p:Nat):Int) hi) (vl b ((b^p:Nat):Int) hi);rw [fP rfl]
end Go.Proofs.YtgcieamfidoaoaaGreatDoor.Fm
namespace Go.Proofs.YtgcieamfidoaoaaGreatDoor
open Go.RowKit
set_option maxRecDepth 100000
theorem mg (w:World) (va vb:Value) (n m k K:Nat) (hK:K≤1000) (ha:Un w va n) (hb:Un w vb m) (hn:(limbs n).length≤K) (hm:(limbs m).length≤K) (hk:n*m=k) :
  Calls Tryz.prog 82 #[va,vb] w fun e w'=>∃ u,e = .returned u∧Un w' u k∧Ext w w':=by
 refine (fH w va vb _ _ _ _ ha hb rfl rfl (by omega) (by omega)).mono ?_
 rw [aJ,aJ,hk]
 rintro e w' ⟨⟨u,h1,h2⟩,h3⟩
 exact ⟨u,h1,h2,h3⟩
theorem xL (K:Nat) (hK:K≤1000) (w:World) (va:Value) (a n:Nat) (hu:Un w va a) (h1:1≤a) (hal:(limbs a).length≤K) (hlim:(limbs (a^n)).length≤K) (hn:n≤100000) (k:Nat) (hk:a^n=k) :
  Calls Tryz.prog 83 #[va,.int .i64 (n:Nat)] w fun e w'=>∃ u,e = .returned u∧Un w' u k∧Ext w w':=by
 subst hk
 have QE:Hid (∀ x,x=a→(limbs x).length≤K):=fun x e=>by rw [e];exact hal
 have NY:Hid (∀ e,e≤n→(limbs (a^e)).length≤K):=fun e he=>Sn.down (n:=a^n) (K:=K) hlim (Nat.pow_le_pow_right h1 he)
 have HS:=Lib.hid (fun W va vb n m k=>mg W va vb n m k K hK)
 clear hlim h1 hK
 obtain ⟨A,ca,rfl,hca⟩:=U.shape (U.dX hu)
 have hE0:=(Ext.refl w).alloc (.cells #[.int .u32 1] 57)
 have hone:Un (w.alloc (.cells #[.int .u32 1] 57)) (.slice (some ⟨w.heap.size,0,none⟩) 1 1) 1:=uI w _ rfl 1 (by decide) (by decide)
 have hu1:Un (w.alloc (.cells #[.int .u32 1] 57)) (.slice A (limbs a).length ca) a:=U.below (U.dX hu) hE0
 clear hal
 generalize (limbs a).length=la at *
 clear hu
 go_enter Tryz.func83,Tryz.ntmps83
 go_wp2
 go_loopw [6,5] (fun t s wr=>∃ (j:Nat),j≤n∧t = .int .i64 (j:Nat)∧Un wr s (a^j)∧Un wr (.slice A la ca) a∧Ext w wr) (fun t _ _=>n-(intOf t).toNat)
 case atStart=>exact ⟨0,Nat.zero_le _,rfl,by rw [Nat.pow_zero];exact hone,hu1,hE0⟩
 case round =>
  clear hone hu1 hE0
  obtain ⟨j,hj,rfl,hz,uL,hE⟩:=hrel
  obtain ⟨A2,c2,rfl,hcc⟩:=U.shape (U.dX hz)
  by_cases hlt:j<n
  · have hM:=Lib.hid (HS.out wr _ _ (a^j) a (a^(j+1)) hz uL (NY.out j hj) (QE.out a rfl) (Nat.pow_succ a j).symm)
    generalize (limbs (a^j)).length=lz at *
    clear hz
    go_wp2_with (fail)
    refine hM.out.mono ?_
    rintro e w2 ⟨u,rfl,hu2,hB⟩
    replace uL:=U.below (U.dX uL) hB
    replace hE:=hE.below hB
    clear hM hB
    go_wp2
    go_roundw
    case rel=>exact ⟨j+1,by omega,by go_num,hu2,uL,hE⟩
    case measure=>simp [intOf];omega
  · obtain rfl:j=n:=by omega
    have HF:Hid (∃ u',Ending.returned (.slice A2 (limbs (a^j)).length c2) = .returned u'∧Un wr u' (a^j)∧Ext w wr):=⟨_,rfl,hz,hE⟩
    clear hz hE
    go_wp2
    go_ret
    exact HF.out
end Go.Proofs.YtgcieamfidoaoaaGreatDoor
namespace Go.Proofs.YtgcieamfidoaoaaGreatDoor
open Go.RowKit Rf Fm
set_option maxRecDepth 100000
theorem Me {p q:Rat}:bP p q≥0↔q≤p:=by unfold bP;split<;>(try split)<;>grind
theorem Ce {p q:Rat}:bP p q>0↔q<p:=by unfold bP;split<;>(try split)<;>grind
theorem QO {p q:Rat}:bP p q<0↔p<q:=by unfold bP;split<;>(try split)<;>grind
theorem xM {b:Nat} (hb:b=2∨b=10):Sn b 1:=Sn.of (by rcases hb with h | h<;>rw [h]<;>decide)
theorem bg (w:World) (b p k:Nat) (lo hi z:Int) (hb:b=2∨b=10) (hz:z=((k:Nat):Int)) (hk:k≤303) :
  Calls Tryz.prog 36 #[.agg #[.int .i64 ((b:Nat):Int),.int .i64 ((p:Nat):Int),.int .i64 lo,.int .i64 hi],.int .i64 z] w fun e w'=>∃ u,e = .returned u∧Un w' u (b^k)∧Pl.Ex w w':=by
 have hb2:2≤b∧b≤10:=by omega
 have hpk:b^k=b^k:=rfl
 subst hz
 refine Rf.aA (n:=11) [.a [vI ((b:Nat):Int),vI ((p:Nat):Int),vI lo,vI hi],vI ((k:Nat):Int)] [] [] Tryz.func36 rfl (by kernel_rfl) rfl rfl trivial ?_
 refine Rf.bu aa 1 0 rfl ?_
 refine Rf.oO ((b:Nat):Int) Tryz.underlying57 (by kernel_rfl) (Pl.w32 (by omega) (by omega)) rfl rfl rfl rfl rfl ?_
 refine Rf.mH (e := 57) (m:=1) [.int .u32 ((b:Nat):Int)] 0 (dW b) rfl rfl rfl (fun _ _=>rfl) (fun α γ X=>by kernel_rfl) rfl (fun N w k=>Un.one (x:=b) k rfl (by omega)) ?_
 refine Rf.ay aa 1 rfl ?_
 refine Rf.aC 1 _ _ rfl (Pl.en Tryz.func83) (fun α γ w h=>dO 1 (xL 78 (by decide) _ _ b k (h.r 0 rfl) (by omega) (Nat.le_trans (xM hb) (by decide)) (Nat.le_trans (bK hb (by omega):Sn (b^k) 38) (by decide)) (by omega) _ rfl)) ?_
 refine Rf.HY aa 0 1 rfl ?_
 exact Rf.aI aa (fun _ _ h=>h) rfl rfl (fun α γ w h=>⟨_,rfl,h.r 1 rfl,h.ex⟩)
theorem oU (w:World) (p:Nat) (lo hi:Int) (hf:fT 2 p lo hi) :
  Calls Tryz.prog 14 #[.agg #[.int .i64 2,.int .i64 ((p:Nat):Int),.int .i64 lo,.int .i64 hi]] w fun e w'=>e = .returned (.bool true)∧Pl.Ex w w':=by
 have f1:=hf.p1
 have f2:=hf.ku
 have f3:=hf.l
 have f4:=hf.l1
 have f5:=hf.h1
 refine Rf.aA (n:=38) [.a [vI 2,vI ((p:Nat):Int),vI lo,vI hi]] [] [] Tryz.func14 rfl (by kernel_rfl) rfl rfl trivial ?_
 refine Rf.bu aa 1 0 rfl ?_
 refine Rf.ah (v:=.bool true) (fun X=>aM (by decide) X) rfl ?_
 refine Rf.ay aa 1 rfl ?_
 refine Rf.ah (v:=.bool true) (fun X=>bS (by omega) X) rfl ?_
 refine Rf.ay aa 1 rfl ?_
 refine Rf.ah (v:=.bool true) (fun X=>cO (by omega) X) rfl ?_
 refine Rf.ay aa 1 rfl ?_
 refine Rf.ah (v:=.bool true) (fun X=>cO (by omega) X) rfl ?_
 refine Rf.ay aa 1 rfl ?_
 refine Rf.ah (v:=.bool true) (fun X=>bS (by omega) X) rfl ?_
 refine Rf.ay aa 1 rfl ?_
 refine Rf.ah (v:=.bool true) (fun X=>cO (by omega) X) rfl ?_
 refine Rf.HY aa 0 1 rfl ?_
 exact Rf.aI aa (fun _ _ h=>h) rfl rfl (fun α γ w h=>⟨rfl,h.ex⟩)
theorem mR (w:World) (p:Nat) (lo hi:Int) (hf:fT 10 p lo hi) :
  Calls Tryz.prog 14 #[.agg #[.int .i64 10,.int .i64 ((p:Nat):Int),.int .i64 lo,.int .i64 hi]] w fun e w'=>e = .returned (.bool true)∧Pl.Ex w w':=by
 have f1:=hf.p1
 have f2:=hf.ku
 have f3:=hf.l
 have f4:=hf.l1
 have f5:=hf.h1
 refine Rf.aA (n:=38) [.a [vI 10,vI ((p:Nat):Int),vI lo,vI hi]] [] [] Tryz.func14 rfl (by kernel_rfl) rfl rfl trivial ?_
 refine Rf.bu aa 1 0 rfl ?_
 refine Rf.ah (v:=.bool false) (fun X=>aK (by decide) X) rfl ?_
 refine Rf.ay aa 1 rfl ?_
 refine Rf.ah (v:=.bool true) (fun X=>aM (by decide) X) rfl ?_
 refine Rf.ay aa 1 rfl ?_
 refine Rf.ah (v:=.bool true) (fun X=>bS (by omega) X) rfl ?_
 refine Rf.ay aa 1 rfl ?_
 refine Rf.ah (v:=.bool true) (fun X=>cO (by omega) X) rfl ?_
 refine Rf.ay aa 1 rfl ?_
 refine Rf.ah (v:=.bool true) (fun X=>cO (by omega) X) rfl ?_
 refine Rf.ay aa 1 rfl ?_
 refine Rf.ah (v:=.bool true) (fun X=>bS (by omega) X) rfl ?_
 refine Rf.ay aa 1 rfl ?_
 refine Rf.ah (v:=.bool true) (fun X=>cO (by omega) X) rfl ?_
 refine Rf.HY aa 0 1 rfl ?_
 exact Rf.aI aa (fun _ _ h=>h) rfl rfl (fun α γ w h=>⟨rfl,h.ex⟩)
theorem dh (w:World) (b p:Nat) (lo hi:Int) (hf:fT b p lo hi) :
  Calls Tryz.prog 14 #[.agg #[.int .i64 ((b:Nat):Int),.int .i64 ((p:Nat):Int),.int .i64 lo,.int .i64 hi]] w fun e w'=>e = .returned (.bool true)∧Pl.Ex w w':=by
 rcases hf.r with rfl | rfl
 · exact oU w p lo hi hf
 · exact mR w p lo hi hf
end Go.Proofs.YtgcieamfidoaoaaGreatDoor
namespace Go.Proofs.YtgcieamfidoaoaaGreatDoor
open Go.RowKit Rf Fm
set_option maxRecDepth 100000
theorem oV {b p:Nat} {lo hi m:Int} (hf:fT b p lo hi) (h0:0<m) (h:m<((b^p:Nat):Int)):(limbs (Int.natAbs m)).length≤p:=Sn.down (n:=b^p) (K:=p) (bK hf.r (by have:=hf.p1;omega)) (by omega)
theorem xN (w:World) (b p:Nat) (lo hi:Int) (hf:fT b p lo hi) (n9:Bool) :
  Calls Tryz.prog 40 #[.agg #[.int .i64 ((b:Nat):Int),.int .i64 ((p:Nat):Int),.int .i64 lo,.int .i64 hi],.bool n9] w fun e w'=>∃ u,e = .returned u∧Fv w' u (.fin n9 (((b^p:Nat):Int)-1) hi)∧Pl.Ex w w':=by
 have f1:=hf.p1
 have f2:=hf.ku
 have f3:=hf.l
 have f4:=hf.l1
 have f5:=hf.h1
 have hb2:=hf.b2
 have hpw:=Nat.pow_pos (n:=p) (show 0<b by omega)
 refine Rf.aA (n:=21) [.a [vI ((b:Nat):Int),vI ((p:Nat):Int),vI lo,vI hi],vB n9] [] [] Tryz.func40 rfl (by kernel_rfl) rfl rfl trivial ?_
 refine Rf.bu aa 1 0 rfl ?_
 refine Rf.aC 0 _ _ rfl (Pl.en Tryz.func36) (fun α γ w h=>dO 0 (bg _ b p p lo hi ((p:Nat):Int) hf.r (by omega) (by omega))) ?_
 refine Rf.mH (e := 57) (m:=1) [.int .u32 1] 1 (dW 1) rfl rfl rfl (fun _ _=>rfl) (fun α γ X=>by kernel_rfl) rfl (fun N w k=>Un.one (x:=1) k rfl (by omega)) ?_
 refine Rf.aC 2 (dW (Int.natAbs (((b^p:Nat):Int)-1))) (.t [.c 2 0,vT]) rfl (Pl.en Tryz.func85) (fun α γ w h=>PZ 2 (QR _ _ _ (b^p) 1 (h.r 0 rfl) (h.r 1 rfl) (Nat.le_trans (bK hf.r (by omega):Sn (b^p) 38) (by decide)) (Nat.le_trans (Sn.of (K:=1) (by decide)) (by decide)) true (decide_eq_true (by omega)) (Int.natAbs (((b^p:Nat):Int)-1)) (by omega))) ?_
 refine Rf.bY aa 0 2 rfl ?_
 refine Rf.nQ (.a [vI 1,vB n9,.c 2 0,vI hi]) rfl rfl rfl (fun _ _=>rfl) (fun α γ hp X=>Rf.NJ rfl rfl (Rf.P8 1 hi n9 (γ 2 0) (hp 2 0)) X) ?_
 refine Rf.HY aa 0 2 rfl ?_
 exact Rf.aI aa (fun _ _ h=>h) rfl rfl (fun α γ w h=>⟨_,rfl,Fv.mk (x:=.fin n9 (((b^p:Nat):Int)-1) hi) (h.r 2 rfl),h.ex⟩)
theorem rA (w:World) (va:Value) (n9:Bool) (ha:Fv w va (.zero n9)) (b p:Nat) (lo hi:Int) (hf:fT b p lo hi) :
  Calls Tryz.prog 16 #[.agg #[.int .i64 ((b:Nat):Int),.int .i64 ((p:Nat):Int),.int .i64 lo,.int .i64 hi],va] w fun e w'=>e = .returned (.bool true)∧Pl.Ex w w':=by
 obtain ⟨Aa,ca,rfl,ua⟩:=ha
 refine Rf.aA (n:=88) [.a [vI ((b:Nat):Int),vI ((p:Nat):Int),vI lo,vI hi],.a [vI 0,vB n9,.c 0 0,vI 0]] [[.slice Aa (limbs 0).length ca]] [(0,(dW 0).S)] Tryz.func16 rfl (by kernel_rfl) rfl rfl ⟨RS.in ua,trivial⟩ ?_
 refine Rf.bu aa 1 0 rfl ?_
 refine Rf.aC 1 _ _ rfl (Pl.en Tryz.func14) (fun α γ w h=>aU 1 (dh _ b p lo hi hf)) ?_
 refine Rf.aV (.bool false) rfl (fun X=>aT _ X) ?_
 refine Rf.ay aa 2 rfl ?_
 refine Rf.ah (v:=.bool false) (fun X=>bM (by decide) X) rfl ?_
 refine Rf.ay aa 2 rfl ?_
 refine Rf.ah (v:=.bool false) (fun X=>bz (by decide) X) rfl ?_
 refine Rf.bY aa 2 2 rfl ?_
 refine Rf.ah (v:=.bool true) (fun X=>fU (by decide) X) rfl ?_
 refine Rf.bY aa 1 2 rfl ?_
 refine Rf.dD ((limbs 0).length) Tryz.underlying24 rfl rfl rfl rfl rfl rfl (fun w f h=>Un.jX h) ?_
 refine Rf.ah (v:=.bool true) (fun X=>aM (by rw [aX];rfl) X) rfl ?_
 refine Rf.ay aa 2 rfl ?_
 refine Rf.ah (v:=.bool true) (fun X=>aM (by decide) X) rfl ?_
 refine Rf.HY aa 0 2 rfl ?_
 exact Rf.aI aa (fun _ _ h=>h) rfl rfl (fun α γ w h=>⟨rfl,h.ex⟩)
theorem rC (w:World) (va:Value) (n9:Bool) (ha:Fv w va (.inf n9)) (b p:Nat) (lo hi:Int) (hf:fT b p lo hi) :
  Calls Tryz.prog 16 #[.agg #[.int .i64 ((b:Nat):Int),.int .i64 ((p:Nat):Int),.int .i64 lo,.int .i64 hi],va] w fun e w'=>e = .returned (.bool true)∧Pl.Ex w w':=by
 obtain ⟨Aa,ca,rfl,ua⟩:=ha
 refine Rf.aA (n:=88) [.a [vI ((b:Nat):Int),vI ((p:Nat):Int),vI lo,vI hi],.a [vI 2,vB n9,.c 0 0,vI 0]] [[.slice Aa (limbs 0).length ca]] [(0,(dW 0).S)] Tryz.func16 rfl (by kernel_rfl) rfl rfl ⟨RS.in ua,trivial⟩ ?_
 refine Rf.bu aa 1 0 rfl ?_
 refine Rf.aC 1 _ _ rfl (Pl.en Tryz.func14) (fun α γ w h=>aU 1 (dh _ b p lo hi hf)) ?_
 refine Rf.aV (.bool false) rfl (fun X=>aT _ X) ?_
 refine Rf.ay aa 2 rfl ?_
 refine Rf.ah (v:=.bool false) (fun X=>bM (by decide) X) rfl ?_
 refine Rf.ay aa 2 rfl ?_
 refine Rf.ah (v:=.bool false) (fun X=>bz (by decide) X) rfl ?_
 refine Rf.bY aa 2 2 rfl ?_
 refine Rf.ah (v:=.bool true) (fun X=>fU (by decide) X) rfl ?_
 refine Rf.bY aa 1 2 rfl ?_
 refine Rf.dD ((limbs 0).length) Tryz.underlying24 rfl rfl rfl rfl rfl rfl (fun w f h=>Un.jX h) ?_
 refine Rf.ah (v:=.bool true) (fun X=>aM (by rw [aX];rfl) X) rfl ?_
 refine Rf.ay aa 2 rfl ?_
 refine Rf.ah (v:=.bool true) (fun X=>aM (by decide) X) rfl ?_
 refine Rf.HY aa 0 2 rfl ?_
 exact Rf.aI aa (fun _ _ h=>h) rfl rfl (fun α γ w h=>⟨rfl,h.ex⟩)
theorem rD (w:World) (va:Value) (n9:Bool) (m e0:Int) (ha:Fv w va (.fin n9 m e0)) (b p:Nat) (lo hi:Int) (hf:fT b p lo hi) (hs0:Sn (Int.natAbs m) 38) (h1:lo≤e0) (h2:e0≤hi) (h3:0<m) (h4:m<((b^p:Nat):Int)) (h5:e0=lo) :
  Calls Tryz.prog 16 #[.agg #[.int .i64 ((b:Nat):Int),.int .i64 ((p:Nat):Int),.int .i64 lo,.int .i64 hi],va] w fun e w'=>e = .returned (.bool true)∧Pl.Ex w w':=by
 have f1:=hf.p1
 have f2:=hf.ku
 have f3:=hf.l
 have f4:=hf.l1
 have f5:=hf.h1
 obtain ⟨Aa,ca,rfl,ua⟩:=ha
 have hs:Sn (Int.natAbs m) 38:=hs0
 have hlp:=oV hf h3 h4
 refine Rf.aA (n:=88) [.a [vI ((b:Nat):Int),vI ((p:Nat):Int),vI lo,vI hi],.a [vI 1,vB n9,.c 0 0,vI e0]] [[.slice Aa (limbs (Int.natAbs m)).length ca]] [(0,(dW (Int.natAbs m)).S)] Tryz.func16 rfl (by kernel_rfl) rfl rfl ⟨RS.in ua,trivial⟩ ?_
 refine Rf.bu aa 1 0 rfl ?_
 refine Rf.aC 1 _ _ rfl (Pl.en Tryz.func14) (fun α γ w h=>aU 1 (dh _ b p lo hi hf)) ?_
 refine Rf.aV (.bool false) rfl (fun X=>aT _ X) ?_
 refine Rf.ay aa 2 rfl ?_
 refine Rf.ah (v:=.bool false) (fun X=>bM (by decide) X) rfl ?_
 refine Rf.ay aa 2 rfl ?_
 refine Rf.ah (v:=.bool false) (fun X=>bz (by decide) X) rfl ?_
 refine Rf.bY aa 2 2 rfl ?_
 refine Rf.ah (v:=.bool false) (fun X=>bE (by decide) X) rfl ?_
 refine Rf.bY aa 2 2 rfl ?_
 refine Rf.dD ((limbs (Int.natAbs m)).length) Tryz.underlying24 rfl rfl rfl rfl rfl rfl (fun w f h=>Un.jX h) ?_
 refine Rf.ah (v:=.bool false) (fun X=>aK (fun h=>by rw [Int.ofNat_eq_zero,jQ] at h;omega) X) rfl ?_
 refine Rf.ay aa 2 rfl ?_
 refine Rf.aC 2 _ _ rfl (Pl.en Tryz.func46) (fun α γ w h=>aU 2 (kD _ _ (limbs (Int.natAbs m)) (h.r 0 rfl) true (fM (Sn.le hs (by decide))))) ?_
 refine Rf.aV (.bool false) rfl (fun X=>aT _ X) ?_
 refine Rf.ay aa 2 rfl ?_
 refine Rf.ah (v:=.bool false) (fun X=>bM (by omega) X) rfl ?_
 refine Rf.ay aa 2 rfl ?_
 refine Rf.ah (v:=.bool false) (fun X=>bz (by omega) X) rfl ?_
 refine Rf.ay aa 2 rfl ?_
 refine Rf.dD ((limbs (Int.natAbs m)).length) Tryz.underlying24 rfl rfl rfl rfl rfl rfl (fun w f h=>Un.jX h) ?_
 refine Rf.ay aa 2 rfl ?_
 refine Rf.ah (v:=.bool false) (fun X=>bz (by omega) X) rfl ?_
 refine Rf.HY aa 2 2 rfl ?_
 refine Rf.aQ none fo ?_
 refine Rf.aD aa 27 2 rfl ?_
 refine Rf.ak 3 _ _ rfl (Pl.en Tryz.func36) (fun α γ w h=>dO 3 (bg _ b p p lo hi ((p:Nat):Int) hf.r (by omega) (by omega))) ?_
 refine Rf.ak 4 _ _ rfl (Pl.en Tryz.func47) (fun α γ w h=>aU 4 (jk _ _ _ (Int.natAbs m) (b^p) (h.r 0 rfl) (h.r 3 rfl) (Nat.le_trans hs (by decide)) (Nat.le_trans (bK hf.r (by omega):Sn (b^p) 38) (by decide)) _ rfl)) ?_
 refine Rf.dL (vT) rfl (fun α γ w h=>(fun X=>bL (je.2 (by omega)) X) w) ?_
 refine Rf.aD aa 27 2 rfl ?_
 refine Rf.dL (vT) rfl (fun α γ w h=>(fun X=>aM h5 X) w) ?_
 refine Rf.aD aa 27 2 rfl ?_
 refine Rf.aW (by kernel_rfl) ?_
 refine Rf.aP [4] [] [] rfl ?_
 repeat refine Rf.aO ?_
 exact Rf.aI aa (fun _ _ h=>h) rfl rfl (fun α γ w h=>⟨rfl,h.ex⟩)
theorem rE (w:World) (va:Value) (n9:Bool) (m e0:Int) (ha:Fv w va (.fin n9 m e0)) (b p:Nat) (lo hi:Int) (hf:fT b p lo hi) (hs0:Sn (Int.natAbs m) 38) (h1:lo≤e0) (h2:e0≤hi) (h3:0<m) (h4:m<((b^p:Nat):Int)) (h5:¬ e0=lo) (h6:((b^(p-1):Nat):Int)≤m) :
  Calls Tryz.prog 16 #[.agg #[.int .i64 ((b:Nat):Int),.int .i64 ((p:Nat):Int),.int .i64 lo,.int .i64 hi],va] w fun e w'=>e = .returned (.bool true)∧Pl.Ex w w':=by
 have f1:=hf.p1
 have f2:=hf.ku
 have f3:=hf.l
 have f4:=hf.l1
 have f5:=hf.h1
 obtain ⟨Aa,ca,rfl,ua⟩:=ha
 have hs:Sn (Int.natAbs m) 38:=hs0
 have hlp:=oV hf h3 h4
 refine Rf.aA (n:=88) [.a [vI ((b:Nat):Int),vI ((p:Nat):Int),vI lo,vI hi],.a [vI 1,vB n9,.c 0 0,vI e0]] [[.slice Aa (limbs (Int.natAbs m)).length ca]] [(0,(dW (Int.natAbs m)).S)] Tryz.func16 rfl (by kernel_rfl) rfl rfl ⟨RS.in ua,trivial⟩ ?_
 refine Rf.bu aa 1 0 rfl ?_
 refine Rf.aC 1 _ _ rfl (Pl.en Tryz.func14) (fun α γ w h=>aU 1 (dh _ b p lo hi hf)) ?_
 refine Rf.aV (.bool false) rfl (fun X=>aT _ X) ?_
 refine Rf.ay aa 2 rfl ?_
 refine Rf.ah (v:=.bool false) (fun X=>bM (by decide) X) rfl ?_
 refine Rf.ay aa 2 rfl ?_
 refine Rf.ah (v:=.bool false) (fun X=>bz (by decide) X) rfl ?_
 refine Rf.bY aa 2 2 rfl ?_
 refine Rf.ah (v:=.bool false) (fun X=>bE (by decide) X) rfl ?_
 refine Rf.bY aa 2 2 rfl ?_
 refine Rf.dD ((limbs (Int.natAbs m)).length) Tryz.underlying24 rfl rfl rfl rfl rfl rfl (fun w f h=>Un.jX h) ?_
 refine Rf.ah (v:=.bool false) (fun X=>aK (fun h=>by rw [Int.ofNat_eq_zero,jQ] at h;omega) X) rfl ?_
 refine Rf.ay aa 2 rfl ?_
 refine Rf.aC 2 _ _ rfl (Pl.en Tryz.func46) (fun α γ w h=>aU 2 (kD _ _ (limbs (Int.natAbs m)) (h.r 0 rfl) true (fM (Sn.le hs (by decide))))) ?_
 refine Rf.aV (.bool false) rfl (fun X=>aT _ X) ?_
 refine Rf.ay aa 2 rfl ?_
 refine Rf.ah (v:=.bool false) (fun X=>bM (by omega) X) rfl ?_
 refine Rf.ay aa 2 rfl ?_
 refine Rf.ah (v:=.bool false) (fun X=>bz (by omega) X) rfl ?_
 refine Rf.ay aa 2 rfl ?_
 refine Rf.dD ((limbs (Int.natAbs m)).length) Tryz.underlying24 rfl rfl rfl rfl rfl rfl (fun w f h=>Un.jX h) ?_
 refine Rf.ay aa 2 rfl ?_
 refine Rf.ah (v:=.bool false) (fun X=>bz (by omega) X) rfl ?_
 refine Rf.HY aa 2 2 rfl ?_
 refine Rf.aQ none fo ?_
 refine Rf.aD aa 27 2 rfl ?_
 refine Rf.ak 3 _ _ rfl (Pl.en Tryz.func36) (fun α γ w h=>dO 3 (bg _ b p p lo hi ((p:Nat):Int) hf.r (by omega) (by omega))) ?_
 refine Rf.ak 4 _ _ rfl (Pl.en Tryz.func47) (fun α γ w h=>aU 4 (jk _ _ _ (Int.natAbs m) (b^p) (h.r 0 rfl) (h.r 3 rfl) (Nat.le_trans hs (by decide)) (Nat.le_trans (bK hf.r (by omega):Sn (b^p) 38) (by decide)) _ rfl)) ?_
 refine Rf.dL (vT) rfl (fun α γ w h=>(fun X=>bL (je.2 (by omega)) X) w) ?_
 refine Rf.aD aa 27 2 rfl ?_
 refine Rf.dL (vF) rfl (fun α γ w h=>(fun X=>aK h5 X) w) ?_
 refine Rf.aD aa 27 2 rfl ?_
 refine Rf.Be (vI (((p:Nat):Int)-1)) rfl rfl rfl rfl rfl rfl rfl rfl rfl rfl (fun α γ w h=>(fun X=>eH (by omega) X) w) ?_
 refine Rf.ak 5 _ _ rfl (Pl.en Tryz.func36) (fun α γ w h=>dO 5 (bg _ b p (p-1) lo hi (((p:Nat):Int)-1) hf.r (by omega) (by omega))) ?_
 refine Rf.ak 6 _ _ rfl (Pl.en Tryz.func47) (fun α γ w h=>aU 6 (jk _ _ _ (Int.natAbs m) (b^(p-1)) (h.r 0 rfl) (h.r 5 rfl) (Nat.le_trans hs (by decide)) (Nat.le_trans (bK hf.r (by omega):Sn (b^(p-1)) 38) (by decide)) _ rfl)) ?_
 refine Rf.dL (vT) rfl (fun α γ w h=>(fun X=>bS (gW.2 (by omega)) X) w) ?_
 refine Rf.aD aa 27 2 rfl ?_
 refine Rf.aW (by kernel_rfl) ?_
 refine Rf.aP [4] [] [] rfl ?_
 repeat refine Rf.aO ?_
 exact Rf.aI aa (fun _ _ h=>h) rfl rfl (fun α γ w h=>⟨rfl,h.ex⟩)
theorem bQ (w:World) (va:Value) (x:Fl) (ha:Fv w va x) (b p:Nat) (lo hi:Int) (hf:fT b p lo hi) (hx:bO b p lo hi x) :
  Calls Tryz.prog 16 #[.agg #[.int .i64 ((b:Nat):Int),.int .i64 ((p:Nat):Int),.int .i64 lo,.int .i64 hi],va] w fun e w'=>e = .returned (.bool true)∧Pl.Ex w w':=by
 cases x with
 | zero n=>exact rA w va n ha b p lo hi hf
 | inf n=>exact rC w va n ha b p lo hi hf
 | fin n m e0 =>
  have hs:=Sn.le (qb hf hx) (show 3≤38 by decide)
  obtain ⟨⟨x1,x2,x3,x4⟩,x5⟩:=hx
  by_cases h:e0=lo
  · exact rD w va n m e0 ha b p lo hi hf hs x1 x5 x2 x3 h
  · exact rE w va n m e0 ha b p lo hi hf hs x1 x5 x2 x3 h (x4.resolve_left h)
end Go.Proofs.YtgcieamfidoaoaaGreatDoor
namespace Go.Proofs.YtgcieamfidoaoaaGreatDoor
open Go.RowKit Rf Fm
set_option maxRecDepth 100000
theorem UI {x:Fl} (h:∀ n,x≠.inf n):¬ kd x=2:=by cases x with | zero n=>exact (show ¬ (0:Int)=2 by decide) | inf n=>exact absurd rfl (h n) | fin n m e=>exact (show ¬ (1:Int)=2 by decide)
end Go.Proofs.YtgcieamfidoaoaaGreatDoor
namespace Go.Proofs.YtgcieamfidoaoaaGreatDoor
open Go.RowKit Rf Fm
set_option maxRecDepth 100000
def eU (xs:List Nat):RS:=⟨fun w f=>U w (f 0) xs,fun h hs hk=>jd h hs hk⟩
def Kh (m n:Nat):RS:=⟨fun w f=>Un w (f 0) m∧Un w (f 1) n,fun ⟨h,g⟩ hs hk=>⟨jd h hs hk,jd g hs hk⟩⟩
theorem sQ {P:Program} {f:FuncId} {args:Array Value} {w:World} {α:Env} {γ:kR} {m n:Nat} (g:Nat) (h:Calls P f args w (fun e w'=>Dv w w' e m n)) :
  Calls P f args w (fun e w'=>∃ F,(∀ k,bG (F k)=true)∧e = .returned (den α (upd γ g F) (.t [.c g 0,.c g 1,vI 0]))∧(Kh m n).R w' F∧Pl.Ex w w'):=Calls.mono h fun e w' ⟨⟨u,v,he,hu,hv⟩,hE⟩=>by
 obtain ⟨A,c,ha⟩:=Un.jX hu
 obtain ⟨B,b,hb⟩:=Un.jX hv
 subst ha hb he
 refine ⟨wo [.slice A (limbs m).length c,.slice B (limbs n).length b],eG rfl,?_,⟨hu,hv⟩,hE⟩
 simp only [den,bZ,upd_same];rfl
def and1 (z:Int):Nat:=(BitVec.ofInt 64 z&&&BitVec.ofInt 64 1).toNat
theorem j5 (z:Int):and1 z≤1:=by unfold and1;rw [BitVec.toNat_and];exact Nat.and_le_right
theorem om (z:Int) (T:TypeId) (x y:Operand) (X:World):Pl.Bn Tryz.prog .and T x y (.int .i64 z) (.int .i64 1) X = .ok (.int .i64 ((and1 z:Nat):Int)) X:=by
 have h:=j5 z
 have e:IntKind.i64.wrap ((and1 z:Nat):Int)=((and1 z:Nat):Int):=Pl.oC (by omega) (by omega)
 show (do eqGuard .and T x y (.int .i64 z) (.int .i64 1);binOp .and T (.int .i64 z) (.int .i64 1):Sem Value).run Tryz.prog X=_
 have h2:(Op.intBits .and .i64 z 1).run Tryz.prog X = .ok (.int .i64 (IntKind.i64.wrap ((and1 z:Nat):Int))) X:=rfl
 rw [e] at h2
 exact h2
def and7 (z:Int):Nat:=(BitVec.ofInt 64 z&&&BitVec.ofInt 64 7).toNat
theorem iG (z:Int):and7 z≤7:=by unfold and7;rw [BitVec.toNat_and];exact Nat.and_le_right
theorem dV (z:Int) (T:TypeId) (x y:Operand) (X:World):Pl.Bn Tryz.prog .and T x y (.int .i64 z) (.int .i64 7) X = .ok (.int .i64 ((and7 z:Nat):Int)) X:=by
 have h:=iG z
 have e:IntKind.i64.wrap ((and7 z:Nat):Int)=((and7 z:Nat):Int):=Pl.oC (by omega) (by omega)
 show (do eqGuard .and T x y (.int .i64 z) (.int .i64 7);binOp .and T (.int .i64 z) (.int .i64 7):Sem Value).run Tryz.prog X=_
 have h2:(Op.intBits .and .i64 z 7).run Tryz.prog X = .ok (.int .i64 (IntKind.i64.wrap ((and7 z:Nat):Int))) X:=rfl
 rw [e] at h2
 exact h2
def iM (z:Int):Nat:=(BitVec.ofInt 64 z&&&BitVec.ofInt 64 8).toNat
theorem j6 (z:Int):iM z≤8:=by unfold iM;rw [BitVec.toNat_and];exact Nat.and_le_right
theorem oo (z:Int) (T:TypeId) (x y:Operand) (X:World):Pl.Bn Tryz.prog .and T x y (.int .i64 z) (.int .i64 8) X = .ok (.int .i64 ((iM z:Nat):Int)) X:=by
 have h:=j6 z
 have e:IntKind.i64.wrap ((iM z:Nat):Int)=((iM z:Nat):Int):=Pl.oC (by omega) (by omega)
 show (do eqGuard .and T x y (.int .i64 z) (.int .i64 8);binOp .and T (.int .i64 z) (.int .i64 8):Sem Value).run Tryz.prog X=_
 have h2:(Op.intBits .and .i64 z 8).run Tryz.prog X = .ok (.int .i64 (IntKind.i64.wrap ((iM z:Nat):Int))) X:=rfl
 rw [e] at h2
 exact h2
def aN (z:Int):Nat:=(BitVec.ofInt 64 z&&&BitVec.ofInt 64 65535).toNat
theorem bW (z:Int):aN z≤65535:=by unfold aN;rw [BitVec.toNat_and];exact Nat.and_le_right
theorem dJ (z:Int) (T:TypeId) (x y:Operand) (X:World):Pl.Bn Tryz.prog .and T x y (.int .i64 z) (.int .i64 65535) X = .ok (.int .i64 ((aN z:Nat):Int)) X:=by
 have h:=bW z
 have e:IntKind.i64.wrap ((aN z:Nat):Int)=((aN z:Nat):Int):=Pl.oC (by omega) (by omega)
 show (do eqGuard .and T x y (.int .i64 z) (.int .i64 65535);binOp .and T (.int .i64 z) (.int .i64 65535):Sem Value).run Tryz.prog X=_
 have h2:(Op.intBits .and .i64 z 65535).run Tryz.prog X = .ok (.int .i64 (IntKind.i64.wrap ((aN z:Nat):Int))) X:=rfl
 rw [e] at h2
 exact h2
theorem bD {P:Program} {T:TypeId} {x y:Operand} {a b:Nat} (h:a+b≤9223372036854775807) (X:World):Pl.Bn P .add T x y (.int .i64 ((a:Nat):Int)) (.int .i64 ((b:Nat):Int)) X = .ok (.int .i64 ((a+b:Nat):Int)) X:=Pl.Ep (Pl.a64 rfl rfl h) X
theorem bF {P:Program} {T:TypeId} {x y:Operand} {a b:Nat} (h0:b≠0) (_:a≤a) (X:World):Pl.Bn P .rem T x y (.int .i64 ((a:Nat):Int)) (.int .i64 ((b:Nat):Int)) X = .ok (.int .i64 ((a%b:Nat):Int)) X:=Pl.rY (by omega) (Int.ofNat_tmod a b).symm X
def dw (r:Int):Nat:=if and1 r=0∧iM r=8 then 10 else 2
def fu (p:Int):Nat:=1+aN p%10
def dY (l:Int):Int:=((aN l%31:Nat):Int)-20
def fD (l h:Int):Int:=dY l+((aN h%21:Nat):Int)
theorem jM (r p l h:Int):fT (dw r) (fu p) (dY l) (fD l h)∧fu p≤10 ∧ -20≤dY l∧fD l h≤30:=by
 unfold dw fu fD dY
 refine ⟨⟨by split<;>omega,by omega,by omega,by omega,by omega,by omega⟩,by omega,by omega,by omega⟩
def iC (lo hi e:Int):Int:=lo+Int.tmod ((aN e:Nat):Int) (hi-lo+1)
theorem gm {lo hi:Int} (h:lo≤hi) (e:Int):lo≤iC lo hi e∧iC lo hi e≤hi:=by
 unfold iC
 rw [Int.tmod_eq_emod_of_nonneg (by omega)]
 have h1:=Int.emod_nonneg ((aN e:Nat):Int) (show hi-lo+1≠0 by omega)
 have h2:=Int.emod_lt_of_pos ((aN e:Nat):Int) (show 0<hi-lo+1 by omega)
 omega
def dx (b p:Nat) (lo hi:Int) (k:Int) (n:Bool) (xs:List Nat) (e:Int):Fl :=
 if and7 k=0 then .zero n else if and7 k=2 then .inf n else if aS xs 4%b^p=0 then .zero n else
  if b^(p-1)≤aS xs 4%b^p then .fin n ((aS xs 4%b^p:Nat):Int) (iC lo hi e) else .fin n ((aS xs 4%b^p:Nat):Int) lo
theorem iL {b p:Nat} {lo hi:Int} (hf:fT b p lo hi) (k:Int) (n:Bool) (xs:List Nat) (e:Int):bO b p lo hi (dx b p lo hi k n xs e):=by
 have h1:=gm hf.l e
 have h2:=Nat.mod_lt (aS xs 4) (Nat.pow_pos (n:=p) (show 0<b by have:=hf.b2;omega))
 have h3:=hf.l
 unfold dx
 obtain ⟨m9,hm9⟩:∃ m,aS xs 4%b^p=m:=⟨_,rfl⟩
 rw [hm9] at h2 ⊢
 split
 · trivial
 · split
   · trivial
   · split
     · trivial
     · split
       · exact ⟨⟨h1.1,by omega,by omega,.inr (by omega)⟩,h1.2⟩
       · exact ⟨⟨Int.le_refl _,by omega,by omega,.inl rfl⟩,h3⟩
theorem Yz (x:Fl):(∀ n,x≠.inf n)∨x = .inf true∨x = .inf false:=by
 cases x with
 | zero n=>exact .inl fun _ h=>nomatch h
 | fin n m e=>exact .inl fun _ h=>nomatch h
 | inf n=>cases n;exact .inr (.inr rfl);exact .inr (.inl rfl)
theorem iq (w:World) (r9 p9 l9 h9:Int) :
  Calls Tryz.prog 29 #[.agg #[.int .i64 r9,.int .i64 p9,.int .i64 l9,.int .i64 h9]] w fun e w'=>e = .returned (.agg #[.int .i64 ((dw r9:Nat):Int),.int .i64 ((fu p9:Nat):Int),.int .i64 (dY l9),.int .i64 (fD l9 h9)])∧Pl.Ex w w':=by
 have qp9:=bW p9
 have ql9:=bW l9
 have qh9:=bW h9
 have g1:=j5 r9
 have g8:=j6 r9
 refine Rf.aA (n:=35) [.a [vI r9,vI p9,vI l9,vI h9]] [] [] Tryz.func29 rfl (by kernel_rfl) rfl rfl trivial ?_
 refine Rf.bu aa 1 0 rfl ?_
 refine Rf.ah (v:=.int .i64 ((aN p9:Nat):Int)) (fun X=>dJ p9 _ _ _ X) rfl ?_
 refine Rf.ah (v:=.int .i64 ((((aN p9)%10):Nat):Int)) (bF (a:=(aN p9)) (b:=10) (by omega) (by omega)) rfl ?_
 refine Rf.ah (v:=.int .i64 (((1+((aN p9)%10)):Nat):Int)) (bD (a:=1) (b:=((aN p9)%10)) (by omega)) rfl ?_
 refine Rf.ay aa 2 rfl ?_
 refine Rf.ah (v:=.int .i64 ((aN l9:Nat):Int)) (fun X=>dJ l9 _ _ _ X) rfl ?_
 refine Rf.ah (v:=.int .i64 ((((aN l9)%31):Nat):Int)) (bF (a:=(aN l9)) (b:=31) (by omega) (by omega)) rfl ?_
 refine Rf.ah (v:=.int .i64 (((((aN l9)%31):Nat):Int)-20)) (fun X=>eH (by omega) X) rfl ?_
 refine Rf.gU (.a [vI 2,vI (((1+((aN p9)%10)):Nat):Int),vI (((((aN l9)%31):Nat):Int)-20),vI 0]) rfl rfl rfl (fun _ _=>rfl) (fun α γ X=>by kernel_rfl) ?_
 refine Rf.bY aa 0 2 rfl ?_
 refine Rf.ah (v:=.int .i64 ((and1 r9:Nat):Int)) (fun X=>om r9 _ _ _ X) rfl ?_
 refine Rf.jZ (p:=(((and1 r9):Nat):Int)=0) (l8 _ _) rfl (fun c1=>?_) (fun c1=>?_)
 · refine Rf.ay aa 3 rfl ?_
   refine Rf.ah (v:=.int .i64 ((iM r9:Nat):Int)) (fun X=>oo r9 _ _ _ X) rfl ?_
   refine Rf.jZ (p:=(((iM r9):Nat):Int)=8) (l8 _ _) rfl (fun c2=>?_) (fun c2=>?_)
   · refine Rf.bY aa 2 3 rfl ?_
     refine Rf.ah (v:=.int .i64 ((aN h9:Nat):Int)) (fun X=>dJ h9 _ _ _ X) rfl ?_
     refine Rf.ah (v:=.int .i64 ((((aN h9)%21):Nat):Int)) (bF (a:=(aN h9)) (b:=21) (by omega) (by omega)) rfl ?_
     refine Rf.ah (v:=.int .i64 ((((((aN l9)%31):Nat):Int)-20)+((((aN h9)%21):Nat):Int))) (fun X=>gB (by omega) X) rfl ?_
     refine Rf.HY aa 1 3 rfl ?_
     exact Rf.aI aa (fun _ _ h=>h) rfl rfl (fun α γ w h=>⟨by rw [show dw r9=10 by unfold dw;split<;>omega];rfl,h.ex⟩)
   · refine Rf.bY aa 2 3 rfl ?_
     refine Rf.ah (v:=.int .i64 ((aN h9:Nat):Int)) (fun X=>dJ h9 _ _ _ X) rfl ?_
     refine Rf.ah (v:=.int .i64 ((((aN h9)%21):Nat):Int)) (bF (a:=(aN h9)) (b:=21) (by omega) (by omega)) rfl ?_
     refine Rf.ah (v:=.int .i64 ((((((aN l9)%31):Nat):Int)-20)+((((aN h9)%21):Nat):Int))) (fun X=>gB (by omega) X) rfl ?_
     refine Rf.HY aa 1 3 rfl ?_
     exact Rf.aI aa (fun _ _ h=>h) rfl rfl (fun α γ w h=>⟨by rw [show dw r9=2 by unfold dw;split<;>omega];rfl,h.ex⟩)
 · refine Rf.bY aa 2 3 rfl ?_
   refine Rf.ah (v:=.int .i64 ((aN h9:Nat):Int)) (fun X=>dJ h9 _ _ _ X) rfl ?_
   refine Rf.ah (v:=.int .i64 ((((aN h9)%21):Nat):Int)) (bF (a:=(aN h9)) (b:=21) (by omega) (by omega)) rfl ?_
   refine Rf.ah (v:=.int .i64 ((((((aN l9)%31):Nat):Int)-20)+((((aN h9)%21):Nat):Int))) (fun X=>gB (by omega) X) rfl ?_
   refine Rf.HY aa 1 3 rfl ?_
   exact Rf.aI aa (fun _ _ h=>h) rfl rfl (fun α γ w h=>⟨by rw [show dw r9=2 by unfold dw;split<;>omega];rfl,h.ex⟩)
theorem sS (w:World) (b p:Nat) (lo hi:Int) (hf:fT b p lo hi) (Aa:Option Addr) (ca:Nat) (k9:Int) (n9:Bool) (xs:List Nat) (e9:Int) (ua:U w (.slice Aa xs.length ca) xs) (hk:and7 k9=0) :
  Calls Tryz.prog 48 #[.agg #[.int .i64 ((b:Nat):Int),.int .i64 ((p:Nat):Int),.int .i64 lo,.int .i64 hi],.agg #[.int .i64 k9,.bool n9,.slice Aa xs.length ca,.int .i64 e9]] w fun e w'=>∃ u,e = .returned u∧Fv w' u (dx b p lo hi k9 n9 xs e9)∧Pl.Ex w w':=by
 have f1:=hf.p1
 have f2:=hf.ku
 have f3:=hf.l
 have f4:=hf.l1
 have f5:=hf.h1
 have hb2:=hf.b2
 have q7:=iG k9
 have q16:=bW e9
 have hcut:Sn (aS xs 4) 4:=Sz.sn (Sz.cut ua false 4 4 (Nat.le_refl 4))
 have hpw:=Nat.pow_pos (n:=p) (show 0<b by omega)
 have hE:=gm f3 e9
 unfold iC at hE
 have hmd:=Nat.mod_lt (aS xs 4) hpw
 refine Rf.aA (n:=71) [.a [vI ((b:Nat):Int),vI ((p:Nat):Int),vI lo,vI hi],.a [vI k9,vB n9,.c 0 0,vI e9]] [[.slice Aa (List.length xs) ca]] [(0,(eU xs).S)] Tryz.func48 rfl (by kernel_rfl) rfl rfl ⟨RS.in ua,trivial⟩ ?_
 refine Rf.bu aa 1 0 rfl ?_
 refine Rf.ah (v:=.int .i64 0) (fun X=>(dV k9 _ _ _ X).trans (by rw [hk];rfl)) rfl ?_
 refine Rf.ah (v:=.bool true) (fun X=>aM (by decide) X) rfl ?_
 refine Rf.bY aa 1 3 rfl ?_
 refine Rf.ah (v:=.int .i64 0) (fun X=>(dV k9 _ _ _ X).trans (by rw [hk];rfl)) rfl ?_
 refine Rf.ay aa 3 rfl ?_
 refine Rf.gU (.a [vI 0,vB n9,vN,vI 0]) rfl rfl rfl (fun _ _=>rfl) (fun α γ X=>by kernel_rfl) ?_
 refine Rf.HY aa 0 3 rfl ?_
 exact Rf.aI aa (fun _ _ h=>h) rfl rfl (fun α γ w h=>⟨_,rfl,by rw [show dx b p lo hi k9 n9 xs e9 = .zero n9 from if_pos hk];exact Fv.mk (x:=.zero n9) (iA _),h.ex⟩)
theorem sU (w:World) (b p:Nat) (lo hi:Int) (hf:fT b p lo hi) (Aa:Option Addr) (ca:Nat) (k9:Int) (n9:Bool) (xs:List Nat) (e9:Int) (ua:U w (.slice Aa xs.length ca) xs) (hk:and7 k9=2) :
  Calls Tryz.prog 48 #[.agg #[.int .i64 ((b:Nat):Int),.int .i64 ((p:Nat):Int),.int .i64 lo,.int .i64 hi],.agg #[.int .i64 k9,.bool n9,.slice Aa xs.length ca,.int .i64 e9]] w fun e w'=>∃ u,e = .returned u∧Fv w' u (dx b p lo hi k9 n9 xs e9)∧Pl.Ex w w':=by
 have f1:=hf.p1
 have f2:=hf.ku
 have f3:=hf.l
 have f4:=hf.l1
 have f5:=hf.h1
 have hb2:=hf.b2
 have q7:=iG k9
 have q16:=bW e9
 have hcut:Sn (aS xs 4) 4:=Sz.sn (Sz.cut ua false 4 4 (Nat.le_refl 4))
 have hpw:=Nat.pow_pos (n:=p) (show 0<b by omega)
 have hE:=gm f3 e9
 unfold iC at hE
 have hmd:=Nat.mod_lt (aS xs 4) hpw
 refine Rf.aA (n:=71) [.a [vI ((b:Nat):Int),vI ((p:Nat):Int),vI lo,vI hi],.a [vI k9,vB n9,.c 0 0,vI e9]] [[.slice Aa (List.length xs) ca]] [(0,(eU xs).S)] Tryz.func48 rfl (by kernel_rfl) rfl rfl ⟨RS.in ua,trivial⟩ ?_
 refine Rf.bu aa 1 0 rfl ?_
 refine Rf.ah (v:=.int .i64 2) (fun X=>(dV k9 _ _ _ X).trans (by rw [hk];rfl)) rfl ?_
 refine Rf.ah (v:=.bool false) (fun X=>aK (by decide) X) rfl ?_
 refine Rf.ay aa 3 rfl ?_
 refine Rf.ah (v:=.int .i64 2) (fun X=>(dV k9 _ _ _ X).trans (by rw [hk];rfl)) rfl ?_
 refine Rf.ah (v:=.bool true) (fun X=>aM (by decide) X) rfl ?_
 refine Rf.bY aa 1 3 rfl ?_
 refine Rf.ah (v:=.int .i64 2) (fun X=>(dV k9 _ _ _ X).trans (by rw [hk];rfl)) rfl ?_
 refine Rf.ay aa 3 rfl ?_
 refine Rf.gU (.a [vI 2,vB n9,vN,vI 0]) rfl rfl rfl (fun _ _=>rfl) (fun α γ X=>by kernel_rfl) ?_
 refine Rf.HY aa 0 3 rfl ?_
 exact Rf.aI aa (fun _ _ h=>h) rfl rfl (fun α γ w h=>⟨_,rfl,by rw [show dx b p lo hi k9 n9 xs e9 = .inf n9 from (if_neg (by omega)).trans (if_pos hk)];exact Fv.mk (x:=.inf n9) (iA _),h.ex⟩)
theorem sV (w:World) (b p:Nat) (lo hi:Int) (hf:fT b p lo hi) (Aa:Option Addr) (ca:Nat) (k9:Int) (n9:Bool) (xs:List Nat) (e9:Int) (ua:U w (.slice Aa xs.length ca) xs) (hk:¬ and7 k9=0) (hk2:¬ and7 k9=2) (hm:(aS xs 4%b^p)=0) :
  Calls Tryz.prog 48 #[.agg #[.int .i64 ((b:Nat):Int),.int .i64 ((p:Nat):Int),.int .i64 lo,.int .i64 hi],.agg #[.int .i64 k9,.bool n9,.slice Aa xs.length ca,.int .i64 e9]] w fun e w'=>∃ u,e = .returned u∧Fv w' u (dx b p lo hi k9 n9 xs e9)∧Pl.Ex w w':=by
 have f1:=hf.p1
 have f2:=hf.ku
 have f3:=hf.l
 have f4:=hf.l1
 have f5:=hf.h1
 have hb2:=hf.b2
 have q7:=iG k9
 have q16:=bW e9
 have hcut:Sn (aS xs 4) 4:=Sz.sn (Sz.cut ua false 4 4 (Nat.le_refl 4))
 have hpw:=Nat.pow_pos (n:=p) (show 0<b by omega)
 have hE:=gm f3 e9
 unfold iC at hE
 have hmd:=Nat.mod_lt (aS xs 4) hpw
 refine Rf.aA (n:=71) [.a [vI ((b:Nat):Int),vI ((p:Nat):Int),vI lo,vI hi],.a [vI k9,vB n9,.c 0 0,vI e9]] [[.slice Aa (List.length xs) ca]] [(0,(eU xs).S)] Tryz.func48 rfl (by kernel_rfl) rfl rfl ⟨RS.in ua,trivial⟩ ?_
 refine Rf.bu aa 1 0 rfl ?_
 refine Rf.ah (v:=.int .i64 ((and7 k9:Nat):Int)) (fun X=>dV k9 _ _ _ X) rfl ?_
 refine Rf.ah (v:=.bool false) (fun X=>aK (by omega) X) rfl ?_
 refine Rf.ay aa 3 rfl ?_
 refine Rf.ah (v:=.int .i64 ((and7 k9:Nat):Int)) (fun X=>dV k9 _ _ _ X) rfl ?_
 refine Rf.ah (v:=.bool false) (fun X=>aK (by omega) X) rfl ?_
 refine Rf.HY aa 2 3 rfl ?_
 refine Rf.aQ none fo ?_
 refine Rf.aD aa 15 3 rfl ?_
 refine Rf.ak 1 _ _ rfl (Pl.en Tryz.func65) (fun α γ w h=>dO 1 (iJ _ _ xs 4 (h.r 0 rfl) (by decide) (by decide) (aS xs 4) rfl)) ?_
 refine Rf.aD aa 15 3 rfl ?_
 refine Rf.ak 2 _ _ rfl (Pl.en Tryz.func36) (fun α γ w h=>dO 2 (bg _ b p p lo hi ((p:Nat):Int) hf.r (by omega) (by omega))) ?_
 refine Rf.ak 3 _ _ rfl (Pl.en Tryz.func91) (fun α γ w h=>sQ 3 (sI _ _ _ (aS xs 4) (b^p) _ _ (h.r 1 rfl) (h.r 2 rfl) (Sn.le hcut (by decide)) (Sn.le (bK hf.r (by omega):Sn (b^p) 38) (by decide)) (by omega) rfl rfl)) ?_
 refine Rf.aD aa 15 3 rfl ?_
 refine Rf.aW (by kernel_rfl) ?_
 refine Rf.aP [2,3,4,6] [0,1,2] [0,3] rfl ?_
 refine Rf.bu aa 0 3 rfl ?_
 refine Rf.dD ((limbs ((aS xs 4)%(b^p))).length) Tryz.underlying24 rfl rfl rfl rfl rfl rfl (fun w f h=>(Un.jX h.2)) ?_
 refine Rf.ah (v:=.bool true) (fun X=>aM (by rw [Int.ofNat_eq_zero,jQ];exact hm) X) rfl ?_
 refine Rf.bY aa 1 3 rfl ?_
 refine Rf.gU (.a [vI 0,vB n9,vN,vI 0]) rfl rfl rfl (fun _ _=>rfl) (fun α γ X=>by kernel_rfl) ?_
 refine Rf.HY aa 0 3 rfl ?_
 exact Rf.aI aa (fun _ _ h=>h) rfl rfl (fun α γ w h=>⟨_,rfl,by rw [show dx b p lo hi k9 n9 xs e9 = .zero n9 from (if_neg hk).trans ((if_neg hk2).trans (if_pos hm))];exact Fv.mk (x:=.zero n9) (iA _),h.ex⟩)
theorem sW (w:World) (b p:Nat) (lo hi:Int) (hf:fT b p lo hi) (Aa:Option Addr) (ca:Nat) (k9:Int) (n9:Bool) (xs:List Nat) (e9:Int) (ua:U w (.slice Aa xs.length ca) xs) (hk:¬ and7 k9=0) (hk2:¬ and7 k9=2) (hm:¬ (aS xs 4%b^p)=0) (hl:b^(p-1)≤(aS xs 4%b^p)) :
  Calls Tryz.prog 48 #[.agg #[.int .i64 ((b:Nat):Int),.int .i64 ((p:Nat):Int),.int .i64 lo,.int .i64 hi],.agg #[.int .i64 k9,.bool n9,.slice Aa xs.length ca,.int .i64 e9]] w fun e w'=>∃ u,e = .returned u∧Fv w' u (dx b p lo hi k9 n9 xs e9)∧Pl.Ex w w':=by
 have f1:=hf.p1
 have f2:=hf.ku
 have f3:=hf.l
 have f4:=hf.l1
 have f5:=hf.h1
 have hb2:=hf.b2
 have q7:=iG k9
 have q16:=bW e9
 have hcut:Sn (aS xs 4) 4:=Sz.sn (Sz.cut ua false 4 4 (Nat.le_refl 4))
 have hpw:=Nat.pow_pos (n:=p) (show 0<b by omega)
 have hE:=gm f3 e9
 unfold iC at hE
 have hmd:=Nat.mod_lt (aS xs 4) hpw
 refine Rf.aA (n:=71) [.a [vI ((b:Nat):Int),vI ((p:Nat):Int),vI lo,vI hi],.a [vI k9,vB n9,.c 0 0,vI e9]] [[.slice Aa (List.length xs) ca]] [(0,(eU xs).S)] Tryz.func48 rfl (by kernel_rfl) rfl rfl ⟨RS.in ua,trivial⟩ ?_
 refine Rf.bu aa 1 0 rfl ?_
 refine Rf.ah (v:=.int .i64 ((and7 k9:Nat):Int)) (fun X=>dV k9 _ _ _ X) rfl ?_
 refine Rf.ah (v:=.bool false) (fun X=>aK (by omega) X) rfl ?_
 refine Rf.ay aa 3 rfl ?_
 refine Rf.ah (v:=.int .i64 ((and7 k9:Nat):Int)) (fun X=>dV k9 _ _ _ X) rfl ?_
 refine Rf.ah (v:=.bool false) (fun X=>aK (by omega) X) rfl ?_
 refine Rf.HY aa 2 3 rfl ?_
 refine Rf.aQ none fo ?_
 refine Rf.aD aa 15 3 rfl ?_
 refine Rf.ak 1 _ _ rfl (Pl.en Tryz.func65) (fun α γ w h=>dO 1 (iJ _ _ xs 4 (h.r 0 rfl) (by decide) (by decide) (aS xs 4) rfl)) ?_
 refine Rf.aD aa 15 3 rfl ?_
 refine Rf.ak 2 _ _ rfl (Pl.en Tryz.func36) (fun α γ w h=>dO 2 (bg _ b p p lo hi ((p:Nat):Int) hf.r (by omega) (by omega))) ?_
 refine Rf.ak 3 _ _ rfl (Pl.en Tryz.func91) (fun α γ w h=>sQ 3 (sI _ _ _ (aS xs 4) (b^p) _ _ (h.r 1 rfl) (h.r 2 rfl) (Sn.le hcut (by decide)) (Sn.le (bK hf.r (by omega):Sn (b^p) 38) (by decide)) (by omega) rfl rfl)) ?_
 refine Rf.aD aa 15 3 rfl ?_
 refine Rf.aW (by kernel_rfl) ?_
 refine Rf.aP [2,3,4,6] [0,1,2] [0,3] rfl ?_
 refine Rf.bu aa 0 3 rfl ?_
 refine Rf.dD ((limbs ((aS xs 4)%(b^p))).length) Tryz.underlying24 rfl rfl rfl rfl rfl rfl (fun w f h=>(Un.jX h.2)) ?_
 refine Rf.ah (v:=.bool false) (fun X=>aK (fun h=>hm (by rw [Int.ofNat_eq_zero,jQ] at h;exact h)) X) rfl ?_
 refine Rf.bY aa 3 3 rfl ?_
 refine Rf.ah (v:=.int .i64 (((p:Nat):Int)-1)) (fun X=>eH (by omega) X) rfl ?_
 refine Rf.aC 4 _ _ rfl (Pl.en Tryz.func36) (fun α γ w h=>dO 4 (bg _ b p (p-1) lo hi (((p:Nat):Int)-1) hf.r (by omega) (by omega))) ?_
 refine Rf.aC 5 _ _ rfl (Pl.en Tryz.func47) (fun α γ w h=>aU 5 (jk _ _ _ ((aS xs 4)%(b^p)) (b^(p-1)) (h.r 3 rfl).2 (h.r 4 rfl) (Nat.le_trans (Sn.down (bK hf.r (by omega):Sn (b^p) 38) (by omega)) (by decide)) (Nat.le_trans (bK hf.r (by omega):Sn (b^(p-1)) 38) (by decide)) _ rfl)) ?_
 refine Rf.ah (v:=.bool true) (fun X=>bS (gW.2 (by omega)) X) rfl ?_
 refine Rf.HY aa 1 0 rfl ?_
 refine Rf.aQ none fo ?_
 refine Rf.aD aa 14 3 rfl ?_
 refine Rf.dL (vI ((aN e9:Nat):Int)) rfl (fun α γ w h=>(fun X=>dJ e9 _ _ _ X) w) ?_
 refine Rf.aD aa 14 3 rfl ?_
 refine Rf.dL (vI (hi-lo)) rfl (fun α γ w h=>(fun X=>eH (by omega) X) w) ?_
 refine Rf.dL (vI ((hi-lo)+1)) rfl (fun α γ w h=>(fun X=>gB (by omega) X) w) ?_
 refine Rf.Be (vI (Int.tmod ((aN e9:Nat):Int) (hi-lo+1))) rfl rfl rfl rfl rfl rfl rfl rfl rfl rfl (fun α γ w h=>(fun X=>Pl.rY (by omega) rfl X) w) ?_
 refine Rf.Be (vI (lo+(Int.tmod ((aN e9:Nat):Int) (hi-lo+1)))) rfl rfl rfl rfl rfl rfl rfl rfl rfl rfl (fun α γ w h=>(fun X=>gB (by omega) X) w) ?_
 refine Rf.aD aa 14 3 rfl ?_
 refine Rf.aW (by kernel_rfl) ?_
 refine Rf.aP [3,4,6,8] [1,2] [0,3] rfl ?_
 refine Rf.bu aa 0 3 rfl ?_
 refine Rf.nQ (.a [vI 1,vB n9,.c 3 1,vI (lo+(Int.tmod ((aN e9:Nat):Int) (hi-lo+1)))]) rfl rfl rfl (fun _ _=>rfl) (fun α γ hp X=>Rf.NJ rfl rfl (Rf.P8 1 (lo+(Int.tmod ((aN e9:Nat):Int) (hi-lo+1))) n9 (γ 3 1) (hp 3 1)) X) ?_
 refine Rf.HY aa 0 3 rfl ?_
 exact Rf.aI aa (fun _ _ h=>h) rfl rfl (fun α γ w h=>⟨_,rfl,by rw [show dx b p lo hi k9 n9 xs e9 = .fin n9 (((aS xs 4%b^p):Nat):Int) (iC lo hi e9) from (if_neg hk).trans ((if_neg hk2).trans ((if_neg hm).trans (if_pos hl)))];exact Fv.mk (x:=.fin n9 (((aS xs 4%b^p):Nat):Int) (iC lo hi e9)) (h.r 3 rfl).2,h.ex⟩)
theorem sZ (w:World) (b p:Nat) (lo hi:Int) (hf:fT b p lo hi) (Aa:Option Addr) (ca:Nat) (k9:Int) (n9:Bool) (xs:List Nat) (e9:Int) (ua:U w (.slice Aa xs.length ca) xs) (hk:¬ and7 k9=0) (hk2:¬ and7 k9=2) (hm:¬ (aS xs 4%b^p)=0) (hl:¬ b^(p-1)≤(aS xs 4%b^p)) :
  Calls Tryz.prog 48 #[.agg #[.int .i64 ((b:Nat):Int),.int .i64 ((p:Nat):Int),.int .i64 lo,.int .i64 hi],.agg #[.int .i64 k9,.bool n9,.slice Aa xs.length ca,.int .i64 e9]] w fun e w'=>∃ u,e = .returned u∧Fv w' u (dx b p lo hi k9 n9 xs e9)∧Pl.Ex w w':=by
 have f1:=hf.p1
 have f2:=hf.ku
 have f3:=hf.l
 have f4:=hf.l1
 have f5:=hf.h1
 have hb2:=hf.b2
 have q7:=iG k9
 have q16:=bW e9
 have hcut:Sn (aS xs 4) 4:=Sz.sn (Sz.cut ua false 4 4 (Nat.le_refl 4))
 have hpw:=Nat.pow_pos (n:=p) (show 0<b by omega)
 have hE:=gm f3 e9
 unfold iC at hE
 have hmd:=Nat.mod_lt (aS xs 4) hpw
 refine Rf.aA (n:=71) [.a [vI ((b:Nat):Int),vI ((p:Nat):Int),vI lo,vI hi],.a [vI k9,vB n9,.c 0 0,vI e9]] [[.slice Aa (List.length xs) ca]] [(0,(eU xs).S)] Tryz.func48 rfl (by kernel_rfl) rfl rfl ⟨RS.in ua,trivial⟩ ?_
 refine Rf.bu aa 1 0 rfl ?_
 refine Rf.ah (v:=.int .i64 ((and7 k9:Nat):Int)) (fun X=>dV k9 _ _ _ X) rfl ?_
 refine Rf.ah (v:=.bool false) (fun X=>aK (by omega) X) rfl ?_
 refine Rf.ay aa 3 rfl ?_
 refine Rf.ah (v:=.int .i64 ((and7 k9:Nat):Int)) (fun X=>dV k9 _ _ _ X) rfl ?_
 refine Rf.ah (v:=.bool false) (fun X=>aK (by omega) X) rfl ?_
 refine Rf.HY aa 2 3 rfl ?_
 refine Rf.aQ none fo ?_
 refine Rf.aD aa 15 3 rfl ?_
 refine Rf.ak 1 _ _ rfl (Pl.en Tryz.func65) (fun α γ w h=>dO 1 (iJ _ _ xs 4 (h.r 0 rfl) (by decide) (by decide) (aS xs 4) rfl)) ?_
 refine Rf.aD aa 15 3 rfl ?_
 refine Rf.ak 2 _ _ rfl (Pl.en Tryz.func36) (fun α γ w h=>dO 2 (bg _ b p p lo hi ((p:Nat):Int) hf.r (by omega) (by omega))) ?_
 refine Rf.ak 3 _ _ rfl (Pl.en Tryz.func91) (fun α γ w h=>sQ 3 (sI _ _ _ (aS xs 4) (b^p) _ _ (h.r 1 rfl) (h.r 2 rfl) (Sn.le hcut (by decide)) (Sn.le (bK hf.r (by omega):Sn (b^p) 38) (by decide)) (by omega) rfl rfl)) ?_
 refine Rf.aD aa 15 3 rfl ?_
 refine Rf.aW (by kernel_rfl) ?_
 refine Rf.aP [2,3,4,6] [0,1,2] [0,3] rfl ?_
 refine Rf.bu aa 0 3 rfl ?_
 refine Rf.dD ((limbs ((aS xs 4)%(b^p))).length) Tryz.underlying24 rfl rfl rfl rfl rfl rfl (fun w f h=>(Un.jX h.2)) ?_
 refine Rf.ah (v:=.bool false) (fun X=>aK (fun h=>hm (by rw [Int.ofNat_eq_zero,jQ] at h;exact h)) X) rfl ?_
 refine Rf.bY aa 3 3 rfl ?_
 refine Rf.ah (v:=.int .i64 (((p:Nat):Int)-1)) (fun X=>eH (by omega) X) rfl ?_
 refine Rf.aC 4 _ _ rfl (Pl.en Tryz.func36) (fun α γ w h=>dO 4 (bg _ b p (p-1) lo hi (((p:Nat):Int)-1) hf.r (by omega) (by omega))) ?_
 refine Rf.aC 5 _ _ rfl (Pl.en Tryz.func47) (fun α γ w h=>aU 5 (jk _ _ _ ((aS xs 4)%(b^p)) (b^(p-1)) (h.r 3 rfl).2 (h.r 4 rfl) (Nat.le_trans (Sn.down (bK hf.r (by omega):Sn (b^p) 38) (by omega)) (by decide)) (Nat.le_trans (bK hf.r (by omega):Sn (b^(p-1)) 38) (by decide)) _ rfl)) ?_
 refine Rf.ah (v:=.bool false) (fun X=>gJ (fun h=>hl (by have h9:=gW.1 h;omega)) X) rfl ?_
 refine Rf.bY aa 2 3 rfl ?_
 refine Rf.nQ (.a [vI 1,vB n9,.c 3 1,vI lo]) rfl rfl rfl (fun _ _=>rfl) (fun α γ hp X=>Rf.NJ rfl rfl (Rf.P8 1 lo n9 (γ 3 1) (hp 3 1)) X) ?_
 refine Rf.HY aa 0 3 rfl ?_
 exact Rf.aI aa (fun _ _ h=>h) rfl rfl (fun α γ w h=>⟨_,rfl,by rw [show dx b p lo hi k9 n9 xs e9 = .fin n9 (((aS xs 4%b^p):Nat):Int) lo from (if_neg hk).trans ((if_neg hk2).trans ((if_neg hm).trans (if_neg hl)))];exact Fv.mk (x:=.fin n9 (((aS xs 4%b^p):Nat):Int) lo) (h.r 3 rfl).2,h.ex⟩)
theorem mh (w:World) (b p:Nat) (lo hi:Int) (hf:fT b p lo hi) (Aa:Option Addr) (ca:Nat) (k9:Int) (n9:Bool) (xs:List Nat) (e9:Int) (ua:U w (.slice Aa xs.length ca) xs) :
  Calls Tryz.prog 48 #[.agg #[.int .i64 ((b:Nat):Int),.int .i64 ((p:Nat):Int),.int .i64 lo,.int .i64 hi],.agg #[.int .i64 k9,.bool n9,.slice Aa xs.length ca,.int .i64 e9]] w fun e w'=>∃ u,e = .returned u∧Fv w' u (dx b p lo hi k9 n9 xs e9)∧Pl.Ex w w':=by
 by_cases hk:and7 k9=0
 · exact sS w b p lo hi hf Aa ca k9 n9 xs e9 ua hk
 · by_cases hk2:and7 k9=2
   · exact sU w b p lo hi hf Aa ca k9 n9 xs e9 ua hk2
   · by_cases hm:aS xs 4%b^p=0
     · exact sV w b p lo hi hf Aa ca k9 n9 xs e9 ua hk hk2 hm
     · by_cases hl:b^(p-1)≤aS xs 4%b^p
       · exact sW w b p lo hi hf Aa ca k9 n9 xs e9 ua hk hk2 hm hl
       · exact sZ w b p lo hi hf Aa ca k9 n9 xs e9 ua hk hk2 hm hl
end Go.Proofs.YtgcieamfidoaoaaGreatDoor
namespace Go.Proofs.YtgcieamfidoaoaaGreatDoor
open Go.RowKit Rf Fm
set_option maxRecDepth 100000
theorem kE (w:World) (va:Value) (b p:Nat) (lo hi:Int) (hf:fT b p lo hi) (k9:Int) (n9:Bool) (xs:List Nat) (e9:Int) (ua:U w va xs) :
  Calls Tryz.prog 48 #[.agg #[.int .i64 ((b:Nat):Int),.int .i64 ((p:Nat):Int),.int .i64 lo,.int .i64 hi],.agg #[.int .i64 k9,.bool n9,va,.int .i64 e9]] w fun e w'=>∃ u,e = .returned u∧Fv w' u (dx b p lo hi k9 n9 xs e9)∧Pl.Ex w w':=by
 obtain ⟨A,c,rfl,-⟩:=U.shape ua
 exact mh w b p lo hi hf A c k9 n9 xs e9 ua
end Go.Proofs.YtgcieamfidoaoaaGreatDoor
namespace Go.Proofs.YtgcieamfidoaoaaGreatDoor
open Go.RowKit Rf Fm
set_option maxRecDepth 100000
theorem xO {P:Program} {f:FuncId} {args:Array Value} {w:World} {α:Env} {γ:kR} {x y:Fl} {a b c d:Value} (g:Nat) (h:Calls P f args w (fun e w'=>∃ u v,e = .returned (.tuple #[.agg #[a,b,c,d],u,v])∧Fv w' u x∧Fv w' v y∧Pl.Ex w w')) :
  Calls P f args w (fun e w'=>∃ F,(∀ k,bG (F k)=true)∧e = .returned (den α (upd γ g F) (.t [.a [.v a,.v b,.v c,.v d],.a [vI (kd x),vB (ng x),.c g 0,vI (xp x)],.a [vI (kd y),vB (ng y),.c g 1,vI (xp y)]]))∧(Kh (mn x) (mn y)).R w' F∧Pl.Ex w w'):=Calls.mono h fun e w' ⟨u,v,he,⟨A,c,hu,ua⟩,⟨B,b,hv,vb⟩,hE⟩=>by
 subst hu hv he
 refine ⟨wo [.slice A (limbs (mn x)).length c,.slice B (limbs (mn y)).length b],eG rfl,?_,⟨ua,vb⟩,hE⟩
 simp only [den,bZ,upd_same];rfl
theorem jg (w:World) (r9 p9 l9 h9:Int) (b p:Nat) (lo hi:Int) (hb:dw r9=b) (hp:fu p9=p) (hlo:dY l9=lo) (hhi:fD l9 h9=hi) (hf:fT b p lo hi) (v1 v2:Value) (k1 k2:Int) (n1 n2:Bool) (jo jN:List Nat) (e1 e2:Int) (u1:U w v1 jo) (u2:U w v2 jN) (x9 y9:Fl) (uK:dx b p lo hi k1 n1 jo e1=x9) (ve:dx b p lo hi k2 n2 jN e2=y9) :
  Calls Tryz.prog 17 #[.agg #[.int .i64 r9,.int .i64 p9,.int .i64 l9,.int .i64 h9],.agg #[.int .i64 k1,.bool n1,v1,.int .i64 e1,.int .i64 k2,.bool n2,v2,.int .i64 e2]] w fun e w'=>∃ u v,e = .returned (.tuple #[.agg #[.int .i64 ((b:Nat):Int),.int .i64 ((p:Nat):Int),.int .i64 lo,.int .i64 hi],u,v])∧Fv w' u x9∧Fv w' v y9∧Pl.Ex w w':=by
 obtain ⟨A1,c1,rfl,-⟩:=U.shape u1
 obtain ⟨A2,c2,rfl,-⟩:=U.shape u2
 refine Rf.aA (n:=19) [.a [vI r9,vI p9,vI l9,vI h9],.a [vI k1,vB n1,.c 0 0,vI e1,vI k2,vB n2,.c 1 0,vI e2]] [[.slice A1 (List.length jo) c1],[.slice A2 (List.length jN) c2]] [(0,(eU jo).S),(1,(eU jN).S)] Tryz.func17 rfl (by kernel_rfl) rfl rfl ⟨RS.in u1,RS.in u2,trivial⟩ ?_
 refine Rf.bu aa 1 0 rfl ?_
 refine Rf.aC 2 (TR) (.a [vI ((b:Nat):Int),vI ((p:Nat):Int),vI lo,vI hi]) rfl (Pl.en Tryz.func29) (fun α γ w h=>xE (.a [vI ((b:Nat):Int),vI ((p:Nat):Int),vI lo,vI hi]) 2 (fun _ _=>rfl) (by have h9:=iq w r9 p9 l9 h9;rw [hb,hp,hlo,hhi] at h9;exact h9)) ?_
 refine Rf.HY aa 0 5 rfl ?_
 refine Rf.aQ none fo ?_
 refine Rf.aD aa 12 6 rfl ?_
 refine Rf.qw (j:=0) (q':=0) (s:=4) Tryz.underlying27 (by kernel_rfl) rfl (by decide) rfl rfl rfl rfl rfl rfl rfl rfl rfl ?_
 refine Rf.aD aa 12 6 rfl ?_
 refine Rf.ak 3 (dW (mn x9)) (.a [vI (kd x9),vB (ng x9),.c 3 0,vI (xp x9)]) rfl (Pl.en Tryz.func48) (fun α γ w h=>fC 3 (by have h9:=kE w _ b p lo hi hf k1 n1 jo e1 (h.r 0 rfl);rw [uK] at h9;exact h9)) ?_
 refine Rf.aD aa 12 6 rfl ?_
 refine Rf.qw (j:=1) (q':=4) (s:=4) Tryz.underlying27 (by kernel_rfl) rfl (by decide) rfl rfl rfl rfl rfl rfl rfl rfl rfl ?_
 refine Rf.aD aa 12 6 rfl ?_
 refine Rf.ak 4 (dW (mn y9)) (.a [vI (kd y9),vB (ng y9),.c 4 0,vI (xp y9)]) rfl (Pl.en Tryz.func48) (fun α γ w h=>fC 4 (by have h9:=kE w _ b p lo hi hf k2 n2 jN e2 (h.r 1 rfl);rw [ve] at h9;exact h9)) ?_
 refine Rf.aD aa 12 6 rfl ?_
 refine Rf.aW (by kernel_rfl) ?_
 refine Rf.aP [4,5,6] [2,3,4] [3,4] rfl ?_
 repeat refine Rf.aO ?_
 exact Rf.aI aa (fun _ _ h=>h) rfl rfl (fun α γ w h=>⟨_,_,rfl,Fv.mk (x:=x9) (h.r 3 rfl),Fv.mk (x:=y9) (h.r 4 rfl),h.ex⟩)
end Go.Proofs.YtgcieamfidoaoaaGreatDoor
namespace Go.Proofs.YtgcieamfidoaoaaGreatDoor
open Go.RowKit Rf Fm
set_option maxRecDepth 100000
theorem y8 (p q:Rat):bP q p = -bP p q:=by unfold bP;split<;>split<;>(try split)<;>grind
theorem ze {b p:Nat} (hb:2≤b) (hp:1≤p) {lo hi:Int} {x y:Fl} (hx:bO b p lo hi x) (hy:bO b p lo hi y):kJ y x = -kJ x y:=by rw [gM hb hp hy hx,gM hb hp hx hy,y8]
end Go.Proofs.YtgcieamfidoaoaaGreatDoor
namespace Go.Proofs.YtgcieamfidoaoaaGreatDoor
open Go.RowKit Rf Fm
set_option maxRecDepth 100000
theorem Fu {b p:Nat} (hb:2≤b) (hp:1≤p) {lo hi:Int} (hl:lo≤hi) {x:Fl} (hx:bO b p lo hi x):bO b p lo hi (fE b p lo hi x):=by
 by_cases h:x = .inf false
 · subst h;exact (trivial:bO b p lo hi (.inf false))
 · exact (uN hb hp hl hx h).1
theorem Mf {b p:Nat} (hb:2≤b) (hp:1≤p) {lo hi:Int} (hl:lo≤hi) {x:Fl} (hx:bO b p lo hi x):bO b p lo hi (fV b p lo hi x):=(Fu hb hp hl hx.turn).turn
theorem Cf (w:World) (r9 p9 l9 h9:Int) (k1:Int) (n1:Bool) (e1:Int) (vH:Value) (jo:List Nat) (yO:U w vH jo) (k2:Int) (n2:Bool) (e2:Int) (vJ:Value) (jN:List Nat) (yP:U w vJ jN) (hxk:∀ n,dx (dw r9) (fu p9) (dY l9) (fD l9 h9) k1 n1 jo e1≠.inf n) :
  Calls Tryz.prog 10 #[.agg #[.int .i64 r9,.int .i64 p9,.int .i64 l9,.int .i64 h9],.agg #[.int .i64 k1,.bool n1,vH,.int .i64 e1,.int .i64 k2,.bool n2,vJ,.int .i64 e2]] w fun e w'=>e = .returned (.bool true)∧Pl.Ex w w':=by
 obtain ⟨b,hb⟩:∃ x,dw r9=x:=⟨_,rfl⟩
 obtain ⟨p,hp⟩:∃ x,fu p9=x:=⟨_,rfl⟩
 obtain ⟨lo,hlo⟩:∃ x,dY l9=x:=⟨_,rfl⟩
 obtain ⟨hi,hhi⟩:∃ x,fD l9 h9=x:=⟨_,rfl⟩
 have hfm:=jM r9 p9 l9 h9
 rw [hb,hp,hlo,hhi] at hfm
 obtain ⟨hf,Fw,Fx,Fy⟩:=hfm
 have f1:=hf.p1
 have f2:=hf.ku
 have f3:=hf.l
 have f4:=hf.l1
 have f5:=hf.h1
 have hb2:=hf.b2
 obtain ⟨Oc,Od,rfl,-⟩:=U.shape yO
 obtain ⟨Oe,Og,rfl,-⟩:=U.shape yP
 obtain ⟨x9,uK⟩:∃ x,dx b p lo hi k1 n1 jo e1=x:=⟨_,rfl⟩
 obtain ⟨y9,ve⟩:∃ x,dx b p lo hi k2 n2 jN e2=x:=⟨_,rfl⟩
 have mU:bO b p lo hi x9:=by rw [← uK];exact iL hf _ _ _ _
 have Fz:bO b p lo hi y9:=by rw [← ve];exact iL hf _ _ _ _
 have hi0:∀ n,x9≠.inf n:=by subst hb hp hlo hhi uK;exact hxk
 have kx:=UI hi0
 obtain ⟨nx,hnx⟩:∃ x,fE b p lo hi x9=x:=⟨_,rfl⟩
 obtain ⟨px,hpx⟩:∃ x,fV b p lo hi x9=x:=⟨_,rfl⟩
 have onx:bO b p lo hi nx:=by rw [← hnx];exact Fu hb2 f1 f3 mU
 have Z0:bO b p lo hi px:=by rw [← hpx];exact Mf hb2 f1 f3 mU
 obtain ⟨pn,hpn⟩:∃ x,fV b p lo hi nx=x:=⟨_,rfl⟩
 obtain ⟨np,hnp⟩:∃ x,fE b p lo hi px=x:=⟨_,rfl⟩
 have opn:bO b p lo hi pn:=by rw [← hpn];exact Mf hb2 f1 f3 onx
 have onp:bO b p lo hi np:=by rw [← hnp];exact Fu hb2 f1 f3 Z0
 have s1:=uN hb2 f1 f3 mU (hi0 _)
 have s2:=Eo hb2 f1 f3 mU (hi0 _)
 have s3:=next_prev hb2 f1 f3 mU (hi0 _)
 have s4:=prev_next hb2 f1 f3 mU (hi0 _)
 rw [hnx] at s1
 rw [hpx] at s2
 rw [hnx,hpn] at s3
 rw [hpx,hnp] at s4
 have c1:kJ x9 nx = -1:=by rw [gM hb2 f1 mU onx];exact bV s1.2.1
 have c2:kJ px x9 = -1:=by rw [gM hb2 f1 Z0 mU];exact bV s2.2.1
 have c3:kJ pn x9=0:=by rw [gM hb2 f1 opn mU];exact fP s3
 have c4:kJ np x9=0:=by rw [gM hb2 f1 onp mU];exact fP s4
 have c5:0<kJ y9 x9→kJ y9 nx≥0:=fun h=>by rw [gM hb2 f1 Fz mU] at h;rw [gM hb2 f1 Fz onx];exact Me.2 (s1.2.2 y9 Fz (Ce.1 h))
 have c6:kJ y9 x9<0→kJ px y9≥0:=fun h=>by rw [gM hb2 f1 Fz mU] at h;rw [gM hb2 f1 Z0 Fz];exact Me.2 (s2.2.2 y9 Fz (QO.1 h))
 have c7:=ze hb2 f1 Z0 Fz
 refine Rf.aA (n:=119) [.a [vI r9,vI p9,vI l9,vI h9],.a [vI k1,vB n1,.c 0 0,vI e1,vI k2,vB n2,.c 1 0,vI e2]] [[.slice Oc (List.length jo) Od],[.slice Oe (List.length jN) Og]] [(0,(eU jo).S),(1,(eU jN).S)] Tryz.func10 rfl (by kernel_rfl) rfl rfl ⟨RS.in yO,RS.in yP,trivial⟩ ?_
 refine Rf.bu aa 1 0 rfl ?_
 refine Rf.aC 2 _ _ rfl (Pl.en Tryz.func12) (fun α γ w h=>aU 2 (iO _)) ?_
 refine Rf.bY aa 0 2 rfl ?_
 refine Rf.aC 3 (Kh (mn x9) (mn y9)) (.t [.a [vI ((b:Nat):Int),vI ((p:Nat):Int),vI lo,vI hi],.a [vI (kd x9),vB (ng x9),.c 3 0,vI (xp x9)],.a [vI (kd y9),vB (ng y9),.c 3 1,vI (xp y9)]]) rfl (Pl.en Tryz.func17) (fun α γ w h=>xO 3 (jg w r9 p9 l9 h9 b p lo hi hb hp hlo hhi hf _ _ k1 k2 n1 n2 jo jN e1 e2 (h.r 0 rfl) (h.r 1 rfl) x9 y9 uK ve)) ?_
 refine Rf.HY aa 0 2 rfl ?_
 refine Rf.aQ none fo ?_
 refine Rf.aD aa 10 5 rfl ?_
 refine Rf.ak 4 (dW (mn nx)) (.a [vI (kd nx),vB (ng nx),.c 4 0,vI (xp nx)]) rfl (Pl.en Tryz.func22) (fun α γ w h=>fC 4 (by have h9:=jf w _ x9 (Fv.mk (x:=x9) (h.r 3 rfl).1) b p lo hi hf mU;rw [hnx] at h9;exact h9)) ?_
 refine Rf.aD aa 10 5 rfl ?_
 refine Rf.ak 5 (dW (mn px)) (.a [vI (kd px),vB (ng px),.c 5 0,vI (xp px)]) rfl (Pl.en Tryz.func24) (fun α γ w h=>fC 5 (by have h9:=jF w _ x9 (Fv.mk (x:=x9) (h.r 3 rfl).1) b p lo hi hf mU;rw [hpx] at h9;exact h9)) ?_
 refine Rf.aD aa 10 5 rfl ?_
 refine Rf.aW (by kernel_rfl) ?_
 refine Rf.aP [4,5,6,7,8,9,10] [2,3,4,5,6] [3,4,5] rfl ?_
 refine Rf.bu aa 0 7 rfl ?_
 refine Rf.aC 6 _ _ rfl (Pl.en Tryz.func16) (fun α γ w h=>aU 6 (bQ _ _ nx (Fv.mk (x:=nx) (h.r 4 rfl)) b p lo hi hf onx)) ?_
 refine Rf.aV (.bool false) rfl (fun X=>aT _ X) ?_
 refine Rf.ay aa 7 rfl ?_
 refine Rf.aC 7 _ _ rfl (Pl.en Tryz.func16) (fun α γ w h=>aU 7 (bQ _ _ px (Fv.mk (x:=px) (h.r 5 rfl)) b p lo hi hf Z0)) ?_
 refine Rf.aV (.bool false) rfl (fun X=>aT _ X) ?_
 refine Rf.bY aa 2 7 rfl ?_
 refine Rf.ah (v:=.bool false) (fun X=>aK kx X) rfl ?_
 refine Rf.HY aa 2 0 rfl ?_
 refine Rf.aQ none fo ?_
 refine Rf.aD aa 30 7 rfl ?_
 refine Rf.ak 8 _ _ rfl (Pl.en Tryz.func26) (fun α γ w h=>aU 8 (dN _ _ _ x9 nx (Fv.mk (x:=x9) (h.r 3 rfl).1) (Fv.mk (x:=nx) (h.r 4 rfl)) b p lo hi)) ?_
 refine Rf.dL (vF) rfl (fun α γ w h=>(fun X=>bE (by omega) X) w) ?_
 refine Rf.aD aa 30 7 rfl ?_
 refine Rf.ak 9 _ _ rfl (Pl.en Tryz.func26) (fun α γ w h=>aU 9 (dN _ _ _ px x9 (Fv.mk (x:=px) (h.r 5 rfl)) (Fv.mk (x:=x9) (h.r 3 rfl).1) b p lo hi)) ?_
 refine Rf.dL (vF) rfl (fun α γ w h=>(fun X=>bE (by omega) X) w) ?_
 refine Rf.aD aa 30 7 rfl ?_
 refine Rf.ak 10 (dW (mn pn)) (.a [vI (kd pn),vB (ng pn),.c 10 0,vI (xp pn)]) rfl (Pl.en Tryz.func24) (fun α γ w h=>fC 10 (by have h9:=jF w _ nx (Fv.mk (x:=nx) (h.r 4 rfl)) b p lo hi hf onx;rw [hpn] at h9;exact h9)) ?_
 refine Rf.aD aa 30 7 rfl ?_
 refine Rf.ak 11 _ _ rfl (Pl.en Tryz.func26) (fun α γ w h=>aU 11 (dN _ _ _ pn x9 (Fv.mk (x:=pn) (h.r 10 rfl)) (Fv.mk (x:=x9) (h.r 3 rfl).1) b p lo hi)) ?_
 refine Rf.dL (vF) rfl (fun α γ w h=>(fun X=>bE (by omega) X) w) ?_
 refine Rf.aD aa 30 7 rfl ?_
 refine Rf.ak 12 (dW (mn np)) (.a [vI (kd np),vB (ng np),.c 12 0,vI (xp np)]) rfl (Pl.en Tryz.func22) (fun α γ w h=>fC 12 (by have h9:=jf w _ px (Fv.mk (x:=px) (h.r 5 rfl)) b p lo hi hf Z0;rw [hnp] at h9;exact h9)) ?_
 refine Rf.aD aa 30 7 rfl ?_
 refine Rf.ak 13 _ _ rfl (Pl.en Tryz.func26) (fun α γ w h=>aU 13 (dN _ _ _ np x9 (Fv.mk (x:=np) (h.r 12 rfl)) (Fv.mk (x:=x9) (h.r 3 rfl).1) b p lo hi)) ?_
 refine Rf.dL (vF) rfl (fun α γ w h=>(fun X=>bE (by omega) X) w) ?_
 refine Rf.aD aa 30 7 rfl ?_
 refine Rf.aW (by kernel_rfl) ?_
 refine Rf.aP [4,5,6,7,8,9,10,89] [2,3,4,5,6] [3,4,5] rfl ?_
 refine Rf.HX aa 2 0 rfl ?_
 rcases Int.lt_trichotomy (kJ y9 x9) 0 with hc | hc | hc
 · have c8:=c6 hc
   refine Rf.bu aa 0 7 rfl ?_
   refine Rf.aC 14 _ _ rfl (Pl.en Tryz.func26) (fun α γ w h=>aU 14 (dN _ _ _ y9 x9 (Fv.mk (x:=y9) (h.r 3 rfl).2) (Fv.mk (x:=x9) (h.r 3 rfl).1) b p lo hi)) ?_
   refine Rf.ah (v:=.bool true) (fun X=>cO (by omega) X) rfl ?_
   refine Rf.ay aa 7 rfl ?_
   refine Rf.aC 15 _ _ rfl (Pl.en Tryz.func26) (fun α γ w h=>aU 15 (dN _ _ _ y9 x9 (Fv.mk (x:=y9) (h.r 3 rfl).2) (Fv.mk (x:=x9) (h.r 3 rfl).1) b p lo hi)) ?_
   refine Rf.ah (v:=.bool false) (fun X=>gJ (by omega) X) rfl ?_
   refine Rf.ay aa 7 rfl ?_
   refine Rf.aC 16 _ _ rfl (Pl.en Tryz.func26) (fun α γ w h=>aU 16 (dN _ _ _ y9 px (Fv.mk (x:=y9) (h.r 3 rfl).2) (Fv.mk (x:=px) (h.r 5 rfl)) b p lo hi)) ?_
   refine Rf.ah (v:=.bool true) (fun X=>cO (by omega) X) rfl ?_
   refine Rf.HY aa 0 7 rfl ?_
   exact Rf.aI aa (fun _ _ h=>h) rfl rfl (fun α γ w h=>⟨rfl,h.ex⟩)
 · refine Rf.bu aa 0 7 rfl ?_
   refine Rf.aC 14 _ _ rfl (Pl.en Tryz.func26) (fun α γ w h=>aU 14 (dN _ _ _ y9 x9 (Fv.mk (x:=y9) (h.r 3 rfl).2) (Fv.mk (x:=x9) (h.r 3 rfl).1) b p lo hi)) ?_
   refine Rf.ah (v:=.bool true) (fun X=>cO (by omega) X) rfl ?_
   refine Rf.ay aa 7 rfl ?_
   refine Rf.aC 15 _ _ rfl (Pl.en Tryz.func26) (fun α γ w h=>aU 15 (dN _ _ _ y9 x9 (Fv.mk (x:=y9) (h.r 3 rfl).2) (Fv.mk (x:=x9) (h.r 3 rfl).1) b p lo hi)) ?_
   refine Rf.ah (v:=.bool true) (fun X=>bS (by omega) X) rfl ?_
   refine Rf.HY aa 0 7 rfl ?_
   exact Rf.aI aa (fun _ _ h=>h) rfl rfl (fun α γ w h=>⟨rfl,h.ex⟩)
 · have c8:=c5 hc
   refine Rf.bu aa 0 7 rfl ?_
   refine Rf.aC 14 _ _ rfl (Pl.en Tryz.func26) (fun α γ w h=>aU 14 (dN _ _ _ y9 x9 (Fv.mk (x:=y9) (h.r 3 rfl).2) (Fv.mk (x:=x9) (h.r 3 rfl).1) b p lo hi)) ?_
   refine Rf.ah (v:=.bool false) (fun X=>Ii (by omega) X) rfl ?_
   refine Rf.ay aa 7 rfl ?_
   refine Rf.aC 15 _ _ rfl (Pl.en Tryz.func26) (fun α γ w h=>aU 15 (dN _ _ _ y9 nx (Fv.mk (x:=y9) (h.r 3 rfl).2) (Fv.mk (x:=nx) (h.r 4 rfl)) b p lo hi)) ?_
   refine Rf.ah (v:=.bool true) (fun X=>bS (by omega) X) rfl ?_
   refine Rf.ay aa 7 rfl ?_
   refine Rf.aC 16 _ _ rfl (Pl.en Tryz.func26) (fun α γ w h=>aU 16 (dN _ _ _ y9 x9 (Fv.mk (x:=y9) (h.r 3 rfl).2) (Fv.mk (x:=x9) (h.r 3 rfl).1) b p lo hi)) ?_
   refine Rf.ah (v:=.bool true) (fun X=>bS (by omega) X) rfl ?_
   refine Rf.HY aa 0 7 rfl ?_
   exact Rf.aI aa (fun _ _ h=>h) rfl rfl (fun α γ w h=>⟨rfl,h.ex⟩)
theorem AP (w:World) (r9 p9 l9 h9:Int) (k1:Int) (n1:Bool) (e1:Int) (vH:Value) (jo:List Nat) (yO:U w vH jo) (k2:Int) (n2:Bool) (e2:Int) (vJ:Value) (jN:List Nat) (yP:U w vJ jN) (hxk:(dx (dw r9) (fu p9) (dY l9) (fD l9 h9) k1 n1 jo e1) = .inf true) :
  Calls Tryz.prog 10 #[.agg #[.int .i64 r9,.int .i64 p9,.int .i64 l9,.int .i64 h9],.agg #[.int .i64 k1,.bool n1,vH,.int .i64 e1,.int .i64 k2,.bool n2,vJ,.int .i64 e2]] w fun e w'=>e = .returned (.bool true)∧Pl.Ex w w':=by
 obtain ⟨b,hb⟩:∃ x,dw r9=x:=⟨_,rfl⟩
 obtain ⟨p,hp⟩:∃ x,fu p9=x:=⟨_,rfl⟩
 obtain ⟨lo,hlo⟩:∃ x,dY l9=x:=⟨_,rfl⟩
 obtain ⟨hi,hhi⟩:∃ x,fD l9 h9=x:=⟨_,rfl⟩
 have hfm:=jM r9 p9 l9 h9
 rw [hb,hp,hlo,hhi] at hfm
 obtain ⟨hf,Fw,Fx,Fy⟩:=hfm
 have f1:=hf.p1
 have f2:=hf.ku
 have f3:=hf.l
 have f4:=hf.l1
 have f5:=hf.h1
 have hb2:=hf.b2
 obtain ⟨Oc,Od,rfl,-⟩:=U.shape yO
 obtain ⟨Oe,Og,rfl,-⟩:=U.shape yP
 obtain ⟨x9,uK⟩:∃ x,dx b p lo hi k1 n1 jo e1=x:=⟨_,rfl⟩
 obtain ⟨y9,ve⟩:∃ x,dx b p lo hi k2 n2 jN e2=x:=⟨_,rfl⟩
 have mU:bO b p lo hi x9:=by rw [← uK];exact iL hf _ _ _ _
 have Fz:bO b p lo hi y9:=by rw [← ve];exact iL hf _ _ _ _
 obtain rfl:x9 = .inf true:=by subst hb hp hlo hhi uK;exact hxk
 have ogr:bO b p lo hi (.fin true (((b^p:Nat):Int)-1) hi):=⟨nL hb2 f1 f3,Int.le_refl _⟩
 have hI:fV b p lo hi (.inf true)=(.inf true):=rfl
 have hG:fE b p lo hi (.inf true)=(.fin true (((b^p:Nat):Int)-1) hi):=rfl
 refine Rf.aA (n:=119) [.a [vI r9,vI p9,vI l9,vI h9],.a [vI k1,vB n1,.c 0 0,vI e1,vI k2,vB n2,.c 1 0,vI e2]] [[.slice Oc (List.length jo) Od],[.slice Oe (List.length jN) Og]] [(0,(eU jo).S),(1,(eU jN).S)] Tryz.func10 rfl (by kernel_rfl) rfl rfl ⟨RS.in yO,RS.in yP,trivial⟩ ?_
 refine Rf.bu aa 1 0 rfl ?_
 refine Rf.aC 2 _ _ rfl (Pl.en Tryz.func12) (fun α γ w h=>aU 2 (iO _)) ?_
 refine Rf.bY aa 0 2 rfl ?_
 refine Rf.aC 3 (Kh (mn (.inf true)) (mn y9)) (.t [.a [vI ((b:Nat):Int),vI ((p:Nat):Int),vI lo,vI hi],.a [vI 2,vT,.c 3 0,vI 0],.a [vI (kd y9),vB (ng y9),.c 3 1,vI (xp y9)]]) rfl (Pl.en Tryz.func17) (fun α γ w h=>xO 3 (jg w r9 p9 l9 h9 b p lo hi hb hp hlo hhi hf _ _ k1 k2 n1 n2 jo jN e1 e2 (h.r 0 rfl) (h.r 1 rfl) (.inf true) y9 uK ve)) ?_
 refine Rf.HY aa 0 2 rfl ?_
 refine Rf.aQ none fo ?_
 refine Rf.aD aa 10 5 rfl ?_
 refine Rf.ak 4 (dW (mn (.fin true (((b^p:Nat):Int)-1) hi))) (.a [vI 1,vT,.c 4 0,vI hi]) rfl (Pl.en Tryz.func22) (fun α γ w h=>fC 4 (by have h9:=jf w _ (.inf true) (Fv.mk (x:=(.inf true)) (h.r 3 rfl).1) b p lo hi hf mU;rw [hG] at h9;exact h9)) ?_
 refine Rf.aD aa 10 5 rfl ?_
 refine Rf.ak 5 (dW (mn (.inf true))) (.a [vI 2,vT,.c 5 0,vI 0]) rfl (Pl.en Tryz.func24) (fun α γ w h=>fC 5 (by have h9:=jF w _ (.inf true) (Fv.mk (x:=(.inf true)) (h.r 3 rfl).1) b p lo hi hf mU;rw [hI] at h9;exact h9)) ?_
 refine Rf.aD aa 10 5 rfl ?_
 refine Rf.aW (by kernel_rfl) ?_
 refine Rf.aP [4,5,6,7,8,9,10] [2,3,4,5,6] [3,4,5] rfl ?_
 refine Rf.bu aa 0 7 rfl ?_
 refine Rf.aC 6 _ _ rfl (Pl.en Tryz.func16) (fun α γ w h=>aU 6 (bQ _ _ (.fin true (((b^p:Nat):Int)-1) hi) (Fv.mk (x:=(.fin true (((b^p:Nat):Int)-1) hi)) (h.r 4 rfl)) b p lo hi hf ogr)) ?_
 refine Rf.aV (.bool false) rfl (fun X=>aT _ X) ?_
 refine Rf.ay aa 7 rfl ?_
 refine Rf.aC 7 _ _ rfl (Pl.en Tryz.func16) (fun α γ w h=>aU 7 (bQ _ _ (.inf true) (Fv.mk (x:=(.inf true)) (h.r 5 rfl)) b p lo hi hf mU)) ?_
 refine Rf.aV (.bool false) rfl (fun X=>aT _ X) ?_
 refine Rf.bY aa 2 7 rfl ?_
 refine Rf.ah (v:=.bool true) (fun X=>aM (by decide) X) rfl ?_
 refine Rf.HY aa 1 0 rfl ?_
 refine Rf.aQ none fo ?_
 refine Rf.aD aa 6 7 rfl ?_
 refine Rf.aW (by kernel_rfl) ?_
 refine Rf.aP [4,5,6,7,8,9,10,11,12] [2,3,4,5,6,7,8] [3,4,5] rfl ?_
 refine Rf.HX aa 4 9 rfl ?_
 refine Rf.aQ none fo ?_
 refine Rf.aD aa 15 9 rfl ?_
 refine Rf.ak 8 _ _ rfl (Pl.en Tryz.func21) (fun α γ w h=>aU 8 (bH w _ _ (.inf true) (.inf true) (Fv.mk (x:=(.inf true)) (h.r 5 rfl)) (Fv.mk (x:=(.inf true)) (h.r 3 rfl).1) rfl)) ?_
 refine Rf.aD aa 15 9 rfl ?_
 refine Rf.ak 9 _ (.a [vI 1,vT,.c 9 0,vI hi]) rfl (Pl.en Tryz.func40) (fun α γ w h=>fC 9 (xN _ b p lo hi hf true)) ?_
 refine Rf.ak 10 _ _ rfl (Pl.en Tryz.func21) (fun α γ w h=>aU 10 (bH w _ _ (.fin true (((b^p:Nat):Int)-1) hi) (.fin true (((b^p:Nat):Int)-1) hi) (Fv.mk (x:=(.fin true (((b^p:Nat):Int)-1) hi)) (h.r 4 rfl)) (Fv.mk (x:=(.fin true (((b^p:Nat):Int)-1) hi)) (h.r 9 rfl)) rfl)) ?_
 refine Rf.aD aa 15 9 rfl ?_
 refine Rf.aW (by kernel_rfl) ?_
 refine Rf.aP [4,5,6,7,8,9,10] [2,3,4,5,6] [3,4,5] rfl ?_
 repeat refine Rf.aO ?_
 exact Rf.aI aa (fun _ _ h=>h) rfl rfl (fun α γ w h=>⟨rfl,h.ex⟩)
theorem AQ (w:World) (r9 p9 l9 h9:Int) (k1:Int) (n1:Bool) (e1:Int) (vH:Value) (jo:List Nat) (yO:U w vH jo) (k2:Int) (n2:Bool) (e2:Int) (vJ:Value) (jN:List Nat) (yP:U w vJ jN) (hxk:(dx (dw r9) (fu p9) (dY l9) (fD l9 h9) k1 n1 jo e1) = .inf false) :
  Calls Tryz.prog 10 #[.agg #[.int .i64 r9,.int .i64 p9,.int .i64 l9,.int .i64 h9],.agg #[.int .i64 k1,.bool n1,vH,.int .i64 e1,.int .i64 k2,.bool n2,vJ,.int .i64 e2]] w fun e w'=>e = .returned (.bool true)∧Pl.Ex w w':=by
 obtain ⟨b,hb⟩:∃ x,dw r9=x:=⟨_,rfl⟩
 obtain ⟨p,hp⟩:∃ x,fu p9=x:=⟨_,rfl⟩
 obtain ⟨lo,hlo⟩:∃ x,dY l9=x:=⟨_,rfl⟩
 obtain ⟨hi,hhi⟩:∃ x,fD l9 h9=x:=⟨_,rfl⟩
 have hfm:=jM r9 p9 l9 h9
 rw [hb,hp,hlo,hhi] at hfm
 obtain ⟨hf,Fw,Fx,Fy⟩:=hfm
 have f1:=hf.p1
 have f2:=hf.ku
 have f3:=hf.l
 have f4:=hf.l1
 have f5:=hf.h1
 have hb2:=hf.b2
 obtain ⟨Oc,Od,rfl,-⟩:=U.shape yO
 obtain ⟨Oe,Og,rfl,-⟩:=U.shape yP
 obtain ⟨x9,uK⟩:∃ x,dx b p lo hi k1 n1 jo e1=x:=⟨_,rfl⟩
 obtain ⟨y9,ve⟩:∃ x,dx b p lo hi k2 n2 jN e2=x:=⟨_,rfl⟩
 have mU:bO b p lo hi x9:=by rw [← uK];exact iL hf _ _ _ _
 have Fz:bO b p lo hi y9:=by rw [← ve];exact iL hf _ _ _ _
 obtain rfl:x9 = .inf false:=by subst hb hp hlo hhi uK;exact hxk
 have ogr:bO b p lo hi (.fin false (((b^p:Nat):Int)-1) hi):=⟨nL hb2 f1 f3,Int.le_refl _⟩
 have hI:fE b p lo hi (.inf false)=(.inf false):=rfl
 have hG:fV b p lo hi (.inf false)=(.fin false (((b^p:Nat):Int)-1) hi):=rfl
 refine Rf.aA (n:=119) [.a [vI r9,vI p9,vI l9,vI h9],.a [vI k1,vB n1,.c 0 0,vI e1,vI k2,vB n2,.c 1 0,vI e2]] [[.slice Oc (List.length jo) Od],[.slice Oe (List.length jN) Og]] [(0,(eU jo).S),(1,(eU jN).S)] Tryz.func10 rfl (by kernel_rfl) rfl rfl ⟨RS.in yO,RS.in yP,trivial⟩ ?_
 refine Rf.bu aa 1 0 rfl ?_
 refine Rf.aC 2 _ _ rfl (Pl.en Tryz.func12) (fun α γ w h=>aU 2 (iO _)) ?_
 refine Rf.bY aa 0 2 rfl ?_
 refine Rf.aC 3 (Kh (mn (.inf false)) (mn y9)) (.t [.a [vI ((b:Nat):Int),vI ((p:Nat):Int),vI lo,vI hi],.a [vI 2,vF,.c 3 0,vI 0],.a [vI (kd y9),vB (ng y9),.c 3 1,vI (xp y9)]]) rfl (Pl.en Tryz.func17) (fun α γ w h=>xO 3 (jg w r9 p9 l9 h9 b p lo hi hb hp hlo hhi hf _ _ k1 k2 n1 n2 jo jN e1 e2 (h.r 0 rfl) (h.r 1 rfl) (.inf false) y9 uK ve)) ?_
 refine Rf.HY aa 0 2 rfl ?_
 refine Rf.aQ none fo ?_
 refine Rf.aD aa 10 5 rfl ?_
 refine Rf.ak 4 (dW (mn (.inf false))) (.a [vI 2,vF,.c 4 0,vI 0]) rfl (Pl.en Tryz.func22) (fun α γ w h=>fC 4 (by have h9:=jf w _ (.inf false) (Fv.mk (x:=(.inf false)) (h.r 3 rfl).1) b p lo hi hf mU;rw [hI] at h9;exact h9)) ?_
 refine Rf.aD aa 10 5 rfl ?_
 refine Rf.ak 5 (dW (mn (.fin false (((b^p:Nat):Int)-1) hi))) (.a [vI 1,vF,.c 5 0,vI hi]) rfl (Pl.en Tryz.func24) (fun α γ w h=>fC 5 (by have h9:=jF w _ (.inf false) (Fv.mk (x:=(.inf false)) (h.r 3 rfl).1) b p lo hi hf mU;rw [hG] at h9;exact h9)) ?_
 refine Rf.aD aa 10 5 rfl ?_
 refine Rf.aW (by kernel_rfl) ?_
 refine Rf.aP [4,5,6,7,8,9,10] [2,3,4,5,6] [3,4,5] rfl ?_
 refine Rf.bu aa 0 7 rfl ?_
 refine Rf.aC 6 _ _ rfl (Pl.en Tryz.func16) (fun α γ w h=>aU 6 (bQ _ _ (.inf false) (Fv.mk (x:=(.inf false)) (h.r 4 rfl)) b p lo hi hf mU)) ?_
 refine Rf.aV (.bool false) rfl (fun X=>aT _ X) ?_
 refine Rf.ay aa 7 rfl ?_
 refine Rf.aC 7 _ _ rfl (Pl.en Tryz.func16) (fun α γ w h=>aU 7 (bQ _ _ (.fin false (((b^p:Nat):Int)-1) hi) (Fv.mk (x:=(.fin false (((b^p:Nat):Int)-1) hi)) (h.r 5 rfl)) b p lo hi hf ogr)) ?_
 refine Rf.aV (.bool false) rfl (fun X=>aT _ X) ?_
 refine Rf.bY aa 2 7 rfl ?_
 refine Rf.ah (v:=.bool true) (fun X=>aM (by decide) X) rfl ?_
 refine Rf.HY aa 1 0 rfl ?_
 refine Rf.aQ none fo ?_
 refine Rf.aD aa 6 7 rfl ?_
 refine Rf.aW (by kernel_rfl) ?_
 refine Rf.aP [4,5,6,7,8,9,10,11,12] [2,3,4,5,6,7,8] [3,4,5] rfl ?_
 refine Rf.HX aa 3 9 rfl ?_
 refine Rf.aQ none fo ?_
 refine Rf.aD aa 15 9 rfl ?_
 refine Rf.ak 8 _ _ rfl (Pl.en Tryz.func21) (fun α γ w h=>aU 8 (bH w _ _ (.inf false) (.inf false) (Fv.mk (x:=(.inf false)) (h.r 4 rfl)) (Fv.mk (x:=(.inf false)) (h.r 3 rfl).1) rfl)) ?_
 refine Rf.aD aa 15 9 rfl ?_
 refine Rf.ak 9 _ (.a [vI 1,vF,.c 9 0,vI hi]) rfl (Pl.en Tryz.func40) (fun α γ w h=>fC 9 (xN _ b p lo hi hf false)) ?_
 refine Rf.ak 10 _ _ rfl (Pl.en Tryz.func21) (fun α γ w h=>aU 10 (bH w _ _ (.fin false (((b^p:Nat):Int)-1) hi) (.fin false (((b^p:Nat):Int)-1) hi) (Fv.mk (x:=(.fin false (((b^p:Nat):Int)-1) hi)) (h.r 5 rfl)) (Fv.mk (x:=(.fin false (((b^p:Nat):Int)-1) hi)) (h.r 9 rfl)) rfl)) ?_
 refine Rf.aD aa 15 9 rfl ?_
 refine Rf.aW (by kernel_rfl) ?_
 refine Rf.aP [4,5,6,7,8,9,10] [2,3,4,5,6] [3,4,5] rfl ?_
 repeat refine Rf.aO ?_
 exact Rf.aI aa (fun _ _ h=>h) rfl rfl (fun α γ w h=>⟨rfl,h.ex⟩)
theorem xP (w:World) (r9 p9 l9 h9:Int) (k1:Int) (n1:Bool) (e1:Int) (vH:Value) (jo:List Nat) (yO:U w vH jo) (k2:Int) (n2:Bool) (e2:Int) (vJ:Value) (jN:List Nat) (yP:U w vJ jN) :
  Calls Tryz.prog 10 #[.agg #[.int .i64 r9,.int .i64 p9,.int .i64 l9,.int .i64 h9],.agg #[.int .i64 k1,.bool n1,vH,.int .i64 e1,.int .i64 k2,.bool n2,vJ,.int .i64 e2]] w fun e w'=>e = .returned (.bool true)∧Pl.Ex w w':=by
 rcases Yz (dx (dw r9) (fu p9) (dY l9) (fD l9 h9) k1 n1 jo e1) with h | h | h
 · exact Cf w r9 p9 l9 h9 k1 n1 e1 vH jo yO k2 n2 e2 vJ jN yP h
 · exact AP w r9 p9 l9 h9 k1 n1 e1 vH jo yO k2 n2 e2 vJ jN yP h
 · exact AQ w r9 p9 l9 h9 k1 n1 e1 vH jo yO k2 n2 e2 vJ jN yP h
end Go.Proofs.YtgcieamfidoaoaaGreatDoor
namespace Go.Proofs.YtgcieamfidoaoaaGreatDoor
open Go.ChangeShapes Go.WideShapes Go.ChangeAt Go.RowKit
set_option maxRecDepth 100000
theorem vk (os:Os) (started:os.Started) (H:Type) (enc:TypeId × Value→H) :
  ReturnsInHanded {} Tryz.checked os 10 .any (fun w args=>(Rows.formatBesideSpec.pre enc Tryz.prog Tryz.f10 [] false w args∧laidMetH Tryz.prog jY w)∧sizedMet enc Tryz.prog Tryz.f10 (OpenSpec.ofChange Rows.formatBesideSpec) false w args)
   (Rows.formatBesideSpec.post enc Tryz.prog Tryz.f10 false true false false):=by
 refine returnsInHanded_of_change_and (C:=Tryz.checked) (X:=fun w _=>laidMetH Tryz.prog jY w) (fun _ _ _ hh h=>h.of_heap hh) own started (by kernel_rfl) Tryz.func10
  (ChangeSpec.witness_shaped (enc:=enc) (C:=Tryz.checked) (os:=os) (X:=fun w _=>laidMetH Tryz.prog jY w) false (World.doorLaid Tryz.prog 400 os) #[.agg #[.int .i64 0,.int .i64 0,.int .i64 0,.int .i64 0],.agg #[.int .i64 0,.bool false,.slice none 0 0,.int .i64 0,.int .i64 0,.bool false,.slice none 0 0,.int .i64 0]] 8 rfl (World.shaped_of_RefB (by kernel_rfl) (by kernel_rfl)) (by kernel_rfl) (by kernel_rfl) (by kernel_rfl) (l5 os _)) ?_
 intro W base args ds gs before hval0 hW _ _ hL _
 have hval:∀ (j:Nat) t v,Tryz.f10.params[j]?=some t→args[j]?=some v→Value.okWide Tryz.prog W .any base t v:=hval0
 have hW':=hW
 obtain ⟨p,q,JR,hV,rfl,hfz,hnd⟩:=hW
 have hA:DataW.TrodAll enc Tryz.prog W 0 (fun _=>true) true Tryz.f10.params.toList args.toList ds p:=JR
 rw [Tryz.params10] at hA hval
 clear JR hval0
 obtain ⟨v0,vs0,d0,ds0,p0,q0,FB,rfl,rfl,h0,r0⟩:=trodAll_cons hA
 obtain ⟨v1,vs1,d1,ds1,p1,q1,rF,rfl,rfl,h1,r1⟩:=trodAll_cons r0
 obtain ⟨hn1,rfl,rfl⟩:=trodAll_nil r1
 subst hn1
 subst rF
 obtain rfl:args=#[v0,v1]:=by cases args;simp_all
 obtain ⟨rfl,rfl⟩:=trodVars_none hV
 obtain ⟨a0,b0f,l0,g0,hv0⟩:=qA (hval 0 23 v0 rfl rfl) h0
 subst hv0
 obtain ⟨k1,n1,A1,c1,x1,e1,k1b,n1b,A1b,c1b,x1b,e1b,hv1,u1,u1b⟩:=Cg (hval 1 27 v1 rfl rfl) h1
 subst hv1
 refine (xP W a0 b0f l0 g0 k1 n1 e1 _ x1 u1 k1b n1b e1b _ x1b u1b).mono fun e W' ⟨he,hB⟩=>?_
 subst he
 exact ⟨_,rfl,l6 hW' rfl (by rw [Tryz.params10];decide +kernel) rfl rfl rfl rfl hB⟩
theorem xQ:Rows.FormatBesideSaid :=
 OpenClaim.holds_of_wide 10 Tryz.f10 rfl rfl rfl rfl rfl rfl rfl ⟨rfl,rfl,rfl,rfl,rfl⟩ rfl rfl rfl rfl rfl (by kernel_rfl) Tryz.func10 (by kernel_rfl)
  (of_decide_eq_true (by kernel_rfl)) (by unfold Func.isWrapper;first | (rw [if_pos (by decide +kernel)];kernel_rfl) | (rw [if_neg (by decide +kernel)];exact ⟨rfl,rfl⟩))
  (fun os started H enc _=>vk os started H enc)
theorem formatBeside_holds:Rows.FormatBesideCardSaid :=
 Claim7.holds_tied_plain_at .later [] [.wider] true Rows.formatBesideCard.stood.harness false
  xQ (fun _ h=>by cases h) (by kernel_rfl) (fun _ h=>by cases h) formatBeside_row_tie rfl ⟨rfl,rfl⟩ (by kernel_rfl) rfl
  (fun f fn hf hfn=>by
   obtain rfl:f = 10 := Option.some.inj ((show Tryz.prog.funcNamed "ziggurat/zigguratlaw22.FormatBeside" = some 10 by kernel_rfl).symm.trans hf) |>.symm
   obtain rfl:fn=Tryz.f10 := (Option.some.inj (Tryz.func10.symm.trans hfn)).symm
   exact ⟨by kernel_rfl,fun j t ht=>by
    rw [Tryz.params10] at ht
    have hm:t∈[23,27]:=by simpa using Array.mem_of_getElem? ht
    have hall:([23,27].all fun u=>!Tryz.prog.wantsStandIn u)=true:=by kernel_rfl
    exact (show Tryz.prog.wantsStandIn t=false by simpa using List.all_eq_true.1 hall t hm)⟩)
  (by kernel_rfl)
end Go.Proofs.YtgcieamfidoaoaaGreatDoor
