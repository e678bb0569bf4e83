/- Proved: the statement FormatOwn: what is rounded is a float of the format, and a float is rounded to itself. No condition. -/
import Derived.Test.YtgcieamfidoaoaaGreatDoorBaa
import Derived.Test.YtgcieamfidoaoaaGreatDoorBab
import Derived.Test.YtgcieamfidoaoaaGreatDoorBad
import Derived.Test.YtgcieamfidoaoaaGreatDoorBag
import Derived.Test.YtgcieamfidoaoaaGreatDoorBaf
import Derived.Test.YtgcieamfidoaoaaGreatDoorBaj
import Derived.Test.YtgcieamfidoaoaaGreatDoorBae
import Derived.Test.YtgcieamfidoaoaaGreatDoorBak
import Derived.Test.YtgcieamfidoaoaaGreatDoorBal
import Derived.Test.YtgcieamfidoaoaaGreatDoorBan
import Derived.Test.YtgcieamfidoaoaaGreatDoorBao
import Derived.Test.YtgcieamfidoaoaaGreatDoorBap
import Derived.Test.YtgcieamfidoaoaaGreatDoorBaq
import Derived.Test.YtgcieamfidoaoaaGreatDoorBar
import Derived.Test.YtgcieamfidoaoaaGreatDoorBah
import Derived.Test.YtgcieamfidoaoaaGreatDoorBam
import Derived.Test.YtgcieamfidoaoaaGreatDoorBax
import Derived.Test.YtgcieamfidoaoaaGreatDoorBay
import Derived.Test.YtgcieamfidoaoaaGreatDoorBaz
import Derived.Deep.MidRow
import Derived.Deep.WholeRow
import Derived.Laws.CopyOwn
import Derived.WalkKit
import Derived.Laws.EntriesVeiled
import Derived.Deep.AppendSrc
import Derived.Lib.AppendZeros
import Derived.Laws.IdiomStrings
import Derived.Laws.StructEq
import Derived.SevenTiedAt
import Derived.LaidMore
import Derived.Stop.Joined
import Derived.JoinedOf
import Derived.JoinedAt
import Derived.Lib.SmallJoins
import Derived.Laws.IdiomArrays
import Derived.WideKeyPair
import Derived.WideKeyArr2
import Derived.Deep.Cut
import Derived.Deep.RegionHeld3

set_option linter.all false
set_option maxHeartbeats 8000000
namespace Go.Proofs.YtgcieamfidoaoaaGreatDoor.Pl
open Go
set_option maxRecDepth 100000
theorem w32 {z:Int} (h1:0≤z) (h2:z<4294967296):IntKind.u32.wrap z=z:=by
 simp only [IntKind.wrap,IntKind.signed,IntKind.bits];simp;omega
section
variable {P:Program} {T:TypeId} {x y:Operand} {k k':IntKind} {a b c:Int} {v:Bool}
theorem rY (h0:b≠0) (h:a.tmod b=c) (X:World):Bn P .rem T x y (.int k a) (.int k b) X = .ok (.int k c) X:=by
 subst h;simp [Bn,eqGuard,binOp,Op.intDiv,h0]
end
section
variable {P:Program} {L:List Oper} {S:World→Prop} {K:List (Nat × Value)→World→Prop} {k:Bool} {i m d:Nat} {o:Oper} {r:List (Bool × Nat × Nat)} {l:List (Nat × Value)} {w w':World} {v:Value}
theorem xI {x:Operand} {s t:TypeId} {kd kd':IntKind} {a c:Int} (hu:P.underlying t=some (.int kd')) (hs:(P.underlying s).isSome=true) (h1:kd'.wrap a=c) (hS:S w) (ho:nth L i=some o) (hop:o.op = .convert s t x) (hd:o.dst=some d) (hg:gd L l o.guard=some true) (hx:dK l x=some (.int kd a))
  (h:fF P L S K r ((d,.int kd' c)::l) w):fF P L S K ((k,i,m)::r) l w :=
 fO hS ho hd hg (fun ρ hρ X _=>by
  obtain ⟨sd,hs⟩:=Option.isSome_iff_exists.1 hs
  unfold execOp;rw [hop]
  refine dI _ X ?_
  rw [hρ.dK hx]
  subst h1
  simp [convert,run_underlying hs,run_underlying hu,Conv.intToInt]) h
def Fj (A:Option Addr) (l h c s:Nat):Value:=.slice (if c=l then A else A.map (·.add (l*s))) (h-l) (c-l)
end
end Go.Proofs.YtgcieamfidoaoaaGreatDoor.Pl
namespace Go.Proofs.YtgcieamfidoaoaaGreatDoor.Pl
open Go Go.RowKit
set_option maxRecDepth 100000
theorem Xs.drop {Bs Cs:List Nat} {w w':World} (h:Xs Bs w w') (hs:∀ k∈Bs,k∈Cs∨w.heap.size≤k):Xs Cs w w':=⟨h.os,h.tape,h.output,h.size,fun k hk hn=>h.block k hk fun hb=>by
 rcases hs k hb with h1 | h1
 · exact hn h1
 · omega⟩
def Sl (w:World) (lo:Nat) (v:Value) (n:Nat) (xs:List Value):Prop:=∃ A c,v = .slice A n c∧n≤c∧c≤9223372036854775807 ∧
 (0<xs.length→∃ ad,A=some ad∧lo≤ad.block∧ad.block<w.heap.size∧∀ j u,xs[j]?=some u→w.cell? (ad.add j)=some u)
theorem Sl.xs {w w':World} {lo n:Nat} {v:Value} {xs:List Value} {Bs:List Nat} (h:Sl w lo v n xs) (k:Xs Bs w w') (hB:∀ b∈Bs,b<lo∨w.heap.size≤b):Sl w' lo v n xs:=by
 obtain ⟨A,c,h1,h2,h3,h4⟩:=h
 refine ⟨A,c,h1,h2,h3,fun h0=>?_⟩
 obtain ⟨ad,e,hl,hb,hc⟩:=h4 h0
 refine ⟨ad,e,hl,Nat.lt_of_lt_of_le hb k.size,fun j u hj=>?_⟩
 rw [← hc j u hj]
 refine World.cell?_of_block (k.block _ (by rw [eZ];exact hb) ?_)
 intro hm
 rw [eZ] at hm
 rcases hB _ hm with h5 | h5<;>omega
where eZ {a:Addr} {j:Nat}:(a.add j).block=a.block:=by unfold Addr.add;split<;>rfl
theorem Sl.at {w:World} {lo n c:Nat} {A:Option Addr} {xs:List Value} (h:Sl w lo (.slice A n c) n xs) {j:Nat} {u:Value} (hj:xs[j]?=some u):∃ ad,A=some ad∧w.cell? (ad.add j)=some u:=by
 obtain ⟨A',c',h1,h2,h3,h4⟩:=h
 cases h1
 obtain ⟨ad,e,_,_,hc⟩:=h4 (by have:=(List.getElem?_eq_some_iff.1 hj).1;omega)
 exact ⟨ad,e,hc j u hj⟩
theorem Sl.cut {w:World} {lo n c s:Nat} {A:Option Addr} {xs:List Value} (h:Sl w lo (.slice A n c) n xs) (hx:xs.length=n*s) {l k:Nat} (h1:l≤k) (h2:k≤n) :
  Sl w lo (Fj A l k c s) (k-l) ((xs.drop (l*s)).take ((k-l)*s)):=by
 obtain ⟨A',c',he,hn,hc,h4⟩:=h
 cases he
 refine ⟨_,_,rfl,by omega,by omega,fun h0=>?_⟩
 have hlen:((xs.drop (l*s)).take ((k-l)*s)).length≤(k-l)*s:=by rw [List.length_take];exact Nat.min_le_left _ _
 have hkl:l<k:=by
  rcases Nat.lt_or_ge l k with h | h
  · exact h
  · have hz:(k-l)*s=0:=by rw [show k-l=0 by omega,Nat.zero_mul]
    omega
 have hpos:0<xs.length:=by rw [List.length_take,List.length_drop] at h0;omega
 obtain ⟨ad,rfl,hl,hb,hcell⟩:=h4 hpos
 have hne:c≠l:=by omega
 rw [if_neg hne]
 refine ⟨ad.add (l*s),rfl,by rw [Sl.xs.eZ];exact hl,by rw [Sl.xs.eZ];exact hb,fun j u hj=>?_⟩
 have e:(ad.add (l*s)).add j=ad.add (l*s+j):=by
  unfold Addr.add
  by_cases hi:l*s=0<;>by_cases hj:j=0<;>simp [hi,hj,Nat.add_assoc]
 rw [e]
 refine hcell _ u ?_
 rw [List.getElem?_take] at hj
 split at hj
 · rwa [List.getElem?_drop] at hj
 · cases hj
end Go.Proofs.YtgcieamfidoaoaaGreatDoor.Pl
namespace Go.Proofs.YtgcieamfidoaoaaGreatDoor.Pl
open Go Go.RowKit
set_option maxRecDepth 100000
theorem a64 {a b:Nat} {x y:Int} (hx:x=(a:Int)) (hy:y=(b:Int)) (h:a+b≤9223372036854775807):IntKind.i64.wrap (x+y)=((a+b:Nat):Int):=by
 subst hx hy;rw [oC (by omega) (by omega)];omega
end Go.Proofs.YtgcieamfidoaoaaGreatDoor.Pl
namespace Go.Proofs.YtgcieamfidoaoaaGreatDoor.Rf
open Go Go.RowKit Go.Proofs.YtgcieamfidoaoaaGreatDoor.Pl
set_option maxRecDepth 100000
section
variable {P:Program} {Q:Exit→Act→World→Prop} {n:Nat} {ds:List Deferred} {w0:World} {cs:List Code} {l:Fr} {B:Bx} {Γ:Gm}
theorem rz {L:List Oper} {r:nu} {i m d:Nat} {o:Oper} {x y:Operand} {op:BinOp} {tx ty:TypeId} {u u':Value} {p:Prop} {ip:Decidable p} (hr:∀ X,Bn P op tx x y u u' X = .ok (.bool (decide p)) X) (ho:nth L i=some o) (hop:o.op = .binOp op tx x y ty) (hd:o.dst=some d) (hg:jT L l o.guard=some true) (hx:ev l x=some (.v u)) (hy:ev l y=some (.v u'))
  (h1:p→HA P Q n ds w0 cs L r ((d,.v (.bool true))::l) B Γ) (h2:¬ p→HA P Q n ds w0 cs L r ((d,.v (.bool false))::l) B Γ):HA P Q n ds w0 cs L ((false,i,m)::r) l B Γ:=by
 by_cases hp:p
 · exact Cc (fun X=>by rw [hr X,decide_eq_true hp]) ho hop hd hg hx hy (h1 hp)
 · exact Cc (fun X=>by rw [hr X,decide_eq_false hp]) ho hop hd hg hx hy (h2 hp)
end
end Go.Proofs.YtgcieamfidoaoaaGreatDoor.Rf
namespace Go.Proofs.YtgcieamfidoaoaaGreatDoor
open Go.ChangeShapes Go.WideShapes Go.ChangeAt Go.RowKit
set_option maxRecDepth 100000
theorem laidOut:laidOutB Tryz.prog=true:=by kernel_rfl
abbrev jY:List (String × DataW Unit):=[("ziggurat/ntt.fields",Rows.laid_ziggurat_ntt_fields)]
theorem l5 (os:Os) (args:Array Value):laidMetH Tryz.prog jY ((World.doorLaid Tryz.prog 400 os).forCall (fun _ _=>0) ⟨#[],args,[]⟩).memory :=
 laidMetH_of_parts3 (fuel:=8) (laidMet_of_run' 8 (by kernel_rfl) (by kernel_rfl)) (by kernel_rfl) (by kernel_rfl)
theorem eB {H:Type} {enc:TypeId × Value→H} {W W':World} {sp:Nat→Bool} (hB:Ext W W'):∀ {ts:List TypeId} {vs:List Value} {ds:List (DataW H)} {ps:List MemPlace},
  (∀ t∈ts,Tryz.prog.readableRec t=true∧t<Tryz.prog.types.size)→DataW.TrodAll enc Tryz.prog W 0 (fun _=>true) true ts vs ds ps→(∀ p∈ps,p.block<W.heap.size)→(∀ p∈ps,sp p.block=true)→DataW.TrodAll enc Tryz.prog W' 0 sp true ts vs ds ps
 | [],[],[],_,_,h,_,_=>h
 | t::_,_::_,_::_,_,hT,⟨p,q,h1,h2,e⟩,hlt,hs=>⟨p,q,
  WideElems.Trod_stays laidOut (hT t (List.mem_cons_self ..)).1 (hT t (List.mem_cons_self ..)).2 h1 (fun x hx=>Below.same hB (hlt x (by rw [e];exact List.mem_append_left _ hx))) (fun x hx=>hs x (by rw [e];exact List.mem_append_left _ hx)),
  eB hB (fun t ht=>hT t (List.mem_cons_of_mem _ ht)) h2 (fun x hx=>hlt x (by rw [e];exact List.mem_append_right _ hx)) (fun x hx=>hs x (by rw [e];exact List.mem_append_right _ hx)),e⟩
theorem l6 {H:Type} {enc:TypeId × Value→H} {f:Func} {s:ChangeSpec} {apart fresh handsOn again:Bool} {W W':World} {args:Array Value} {ds gs:List (DataW H)} {before:List MemPlace}
  (hW:DataW.Whole enc Tryz.prog f.params.toList s.vars apart W args.toList ds gs before) (hv:s.vars=[]) (hT:∀ t∈f.params.toList,Tryz.prog.readableRec t=true∧t<Tryz.prog.types.size)
  (hres:f.resultTypes=#[4]) (hfn:(s.fn H (ds++gs)).results=[.lit (.bool true)]) (hfa:(s.fn H (ds++gs)).args=ds) (UD:(s.fn H (ds++gs)).vars=[]) (hB:Ext W W') :
  s.post enc Tryz.prog f apart fresh handsOn again W args (.bool true) W':=by
 have hlt:∀ p∈before,p.block<W.heap.size:=fun p hp=>hW.lt p hp
 have hold:∀ p∈before,(fun b=>decide (b<W.heap.size)) p.block=true:=fun p hp=>by simpa using hlt p hp
 have hres':∀ (b:Nat) (sp:Nat→Bool) (hd:Bool),DataW.TrodAll enc Tryz.prog W' b sp hd f.resultTypes.toList ((Value.bool true).resultList f.resultTypes.size) (s.fn H (ds++gs)).results []:=by
  intro b sp hd
  rw [hres,hfn]
  exact trodAll_mk1 (shut_bool Tryz.underlying4 _)
 have hW2:=hW
 obtain ⟨p,q,hA,hV,hpq,hz,hn⟩:=hW
 rw [hv] at hV
 obtain ⟨_,rfl⟩:=trodVars_none hV
 rw [List.append_nil] at hpq
 subst hpq
 have hargs:∀ sp:Nat→Bool,(∀ p'∈before,sp p'.block=true)→DataW.TrodAll enc Tryz.prog W' 0 sp true f.params.toList args.toList (s.fn H (ds++gs)).args before:=fun sp hs=>by
  rw [hfa];exact eB hB hT hA hlt hs
 have hvars:∀ sp:Nat→Bool,DataW.TrodVars enc Tryz.prog W' sp s.vars (s.fn H (ds++gs)).vars []:=fun sp=>by rw [hv,UD];exact rfl
 refine ⟨ds,gs,before,[],before,[],hW2,hres' _ _ _,hargs _ hold,hvars _,World.keptBut_mono (fun p hp=>⟨hp,?_⟩) (Below.frame hB (·∈before)),fun _=>?_⟩
 · simpa using hp
 · refine ⟨ok_one hres rfl (okWide_bool_mk Tryz.underlying4 _),_,_,([]++before)++[],⟨[]++before,[],trodAll_append (hargs _ (fun _ _=>rfl)) (hres' _ _ _),hvars _,rfl,?_,?_⟩,?_⟩
   · intro b off hp
     have hin:MemPlace.cell b off∈before:=by simpa using hp
     rw [Below.frozen hB (hlt _ hin)]
     exact hz b off hin
   · intro ha
     have:=hn ha
     simpa using this
   · intro p hp _
     simpa using hp
end Go.Proofs.YtgcieamfidoaoaaGreatDoor
namespace Go.Proofs.YtgcieamfidoaoaaGreatDoor
open Go.RowKit
set_option maxRecDepth 100000
def aS (xs:List Nat) (k:Nat):Nat:=val (xs.take k)
theorem l7 (xs:List Nat) (k:Nat) (hx:∀ x∈xs,x<4294967296):(limbs (aS xs k)).length≤k:=by
 apply gH
 have:=mQ (xs.take k) (fun x h=>hx x (List.mem_of_mem_take h))
 refine Nat.lt_of_lt_of_le this (Nat.pow_le_pow_right (by decide) ?_)
 rw [List.length_take];omega
theorem jK (w:World) (v:Value) (xs:List Nat) (k:Int) (hk0:0≤k) (hk1:k≤1000000000) (h:U w v xs) :
  Calls Tryz.prog 65 #[v,.int .i64 k] w fun e w'=>(∃ u,e = .returned u∧Un w' u (aS xs k.toNat))∧Below w.heap.size w w':=by
 have h':=h
 obtain ⟨A,c,rfl,⟨hc,hm⟩,hx,hr⟩:=h
 clear hr
 by_cases hl:(xs.length:Int)≤k
 · have hu:=dZ w _ xs h' (by omega)
   have HT:Hid (xs.take k.toNat=xs):=List.take_of_length_le (by omega)
   have hmin:min (xs.length:Int) k=xs.length:=by omega
   go_enter Tryz.func65,Tryz.ntmps65
   go_wp2_with (go_at_call 100;refine hu.mono ?_;rintro e w' ⟨⟨z,rfl,hz⟩,hB⟩)
   go_ret
   exact ⟨⟨_,rfl,by rw [Un,aS,HT.out];exact hz⟩,hB⟩
 · obtain ⟨k,rfl⟩:=Int.eq_ofNat_of_zero_le hk0
   have hu:=dZ w _ _ (h'.take (k:=k) (c':=c) (by omega) (by omega)) (by rw [List.length_take];omega)
   have hmin:min (xs.length:Int) (k:Int)=k:=by omega
   go_enter Tryz.func65,Tryz.ntmps65
   go_wp2_with (go_at_call 100;refine hu.mono ?_;rintro e w' ⟨⟨z,rfl,hz⟩,hB⟩)
   go_ret
   exact ⟨⟨_,rfl,by rw [Un,aS,Int.toNat_natCast];exact hz⟩,hB⟩
end Go.Proofs.YtgcieamfidoaoaaGreatDoor
namespace Go.Proofs.YtgcieamfidoaoaaGreatDoor
open Go.RowKit
set_option maxRecDepth 100000
theorem iJ (w:World) (v:Value) (xs:List Nat) (k:Int) (h:U w v xs) (hk0:0≤k) (hk1:k≤1000000000) (n:Nat) (hn:aS xs k.toNat=n) :
  Calls Tryz.prog 65 #[v,.int .i64 k] w fun e w'=>∃ u,e = .returned u∧Un w' u n∧Ext w w':=by
 subst hn
 exact (jK w v xs k hk0 hk1 h).mono fun e w' ⟨⟨u,he,hu⟩,hb⟩=>⟨u,he,hu,hb⟩
end Go.Proofs.YtgcieamfidoaoaaGreatDoor
namespace Go.Proofs.YtgcieamfidoaoaaGreatDoor
open Go.RowKit
set_option maxRecDepth 100000
theorem jL (w:World) (v:Value) (xs:List Nat) (h:U w v xs) :
  Calls Tryz.prog 46 #[v] w fun e w'=>e = .returned (.bool (fG xs))∧w=w':=by
 obtain ⟨A,c,rfl,⟨hc,hm⟩,hx,hr⟩:=h
 by_cases hlen:xs.length≤65536
 · rcases Nat.eq_zero_or_pos xs.length with h0 | h0
   · obtain rfl:=List.eq_nil_of_length_eq_zero h0
     go_enter Tryz.func46,Tryz.ntmps46
     go_wp2
     go_ret
     exact ⟨rfl,rfl⟩
   · obtain ⟨ad,rfl,hb,hcell⟩:=hr h0
     have hc1:=hcell (xs.length-1) (by omega)
     have hne:(((xs.length:Nat):Int)==0)=false:=by rw [beq_eq_false_iff_ne];omega
     have hres:fG xs=(lb xs (xs.length-1) != 0):=by
      unfold fG
      have:xs.isEmpty=false:=by cases xs<;>simp_all
      simp [hlen,this]
     have HR:=Lib.hid hres
     clear hres
     go_enter Tryz.func46,Tryz.ntmps46
     go_wp2
     go_ret
     exact ⟨by rw [HR.out,← bne_cast];rfl,rfl⟩
 · have hres:fG xs=false:=by unfold fG;simp [hlen]
   have hne:(((xs.length:Nat):Int)==0)=false:=by rw [beq_eq_false_iff_ne];omega
   have HR:=Lib.hid hres
   clear hres
   go_enter Tryz.func46,Tryz.ntmps46
   go_wp2
   go_ret
   exact ⟨by rw [HR.out];rfl,rfl⟩
end Go.Proofs.YtgcieamfidoaoaaGreatDoor
namespace Go.Proofs.YtgcieamfidoaoaaGreatDoor
open Go.RowKit
set_option maxRecDepth 100000
theorem fH (w:World) (va vb:Value) (gV bs:List Nat) (na nb:Nat) (ha:U w va gV) (hb:U w vb bs) (hna:gV.length=na) (hnb:bs.length=nb) (hn1:na≤1000) (hn2:nb≤1000) :
  Calls Tryz.prog 82 #[va,vb] w fun e w'=>(∃ u,e = .returned u∧Un w' u (val gV*val bs))∧Ext w w':=by
 obtain ⟨A,ca,rfl,⟨hca,hma⟩,hxl,Io⟩:=id ha
 obtain ⟨A2,cb,rfl,⟨hcb,hmb⟩,hyl,Ip⟩:=id hb
 have HL:Hid (gV.length=na∧bs.length=nb):=⟨hna,hnb⟩
 have QJ:=Lib.hid (fun k=>eP bs k)
 have QK:=Lib.hid (fun k=>eP gV k)
 have HT2:Hid (bs.take nb=bs∧gV.take na=gV):=⟨by rw [← hnb];exact List.take_length,by rw [← hna];exact List.take_length⟩
 rw [hna] at hca hma Io ⊢
 rw [hnb] at hcb hmb Ip ⊢
 obtain ⟨n,hnn⟩:∃ n,na+nb=n:=⟨_,rfl⟩
 have hni:(na:Int)+(nb:Int)=(n:Int):=by omega
 obtain ⟨i0,hi,hz0,hz1,hz2⟩:=info_parts oJ
 obtain ⟨B,hB⟩:∃ B,w.heap.size=B:=⟨_,rfl⟩
 have yM:=Lib.hid hB
 clear ha hb hna hnb
 go_enter Tryz.func82,Tryz.ntmps82
 go_wp2_with (at_make;refine wpList_make_full _ rfl _ _ 24 rfl w.heap.size 57 i0 (.int .u32 0) 1 Tryz.underlying24 hi hz0 hz1 _ _ _ _ n rfl rfl (by omega) (by omega) (by rw [hz2];omega) (by unfold maxLen;omega) (Nat.le_refl _) ?_;intro w1 hown hgrow)
 have ho0:Own w1 w.heap.size (.slice (some ⟨w.heap.size,0,none⟩) n n) (List.replicate n 0):=by
  have:=Own.zeros hown
  rwa [List.length_replicate] at this
 have hE0:Ext w w1:=(Ext.refl w).grown hgrow (Nat.le_refl _) (fun _ h=>by cases h)
 rw [hB] at ho0
 clear hown hgrow hi hz0 hz1 hz2 i0
 have hS0:Hid (GZ bs gV n 0 (List.replicate n 0)):=⟨by simp,fun x hx=>by simp at hx;omega,by simp [dM,val],fun m _=>jq _ _⟩
 go_wp2
 go_loopw [6] (fun t wr=>∃ (i:Nat) (o:List Nat),i≤na∧t = .int .i64 (i:Nat)∧Hid (GZ bs gV n i o)∧Own wr B (.slice (some ⟨B,0,none⟩) n n) o∧Ext w wr) (fun t _=>na-(intOf t).toNat)
 case atStart=>exact ⟨0,_,Nat.zero_le _,rfl,hS0,ho0,hE0⟩
 case round =>
  clear hS0 ho0 hE0
  obtain ⟨i,o,hib,rfl,HO,hown,hE⟩:=hrel
  by_cases hlt:i<na
  · obtain ⟨ad,rfl,hb1,hcell1⟩:=Io (by omega)
    have hyb:=dz hxl i
    have hty:=QK.out i (by rw [HL.out.1];exact hlt)
    obtain ⟨y,yL⟩:∃ y,lb gV i=y:=⟨_,rfl⟩
    rw [yL] at hyb hty
    have HY:=Lib.hid yL
    have Iq:Hid (Kg o n i (val o+LB^i*(val (bs.take 0)*y)) 0 o 0):=⟨HO.out.len,HO.out.lt,by decide,by simp [val],fun m _=>rfl⟩
    have sO:Hid (val (gV.take (i+1))=val (gV.take i)+LB^i*y):=hty
    have hno:Hid (lb o (i+nb)=0):=HO.out.out _ (by rw [HL.out.2];exact Nat.le_refl _)
    clear yL hty
    go_wp2
    go_loopw [8,7] (fun t s wx=>∃ (j:Nat) (o2:List Nat) (cy:Nat),j≤nb∧t = .int .i64 (j:Nat)∧s = .int .u64 (cy:Nat)∧Hid (Kg o n i (val o+LB^i*(val (bs.take j)*y)) j o2 cy)∧Own wx B (.slice (some ⟨B,0,none⟩) n n) o2∧Ext w wx) (fun t _ _=>nb-(intOf t).toNat)
    case atStart=>exact ⟨0,o,0,Nat.zero_le _,rfl,rfl,Iq,hown,hE⟩
    case round =>
     clear Iq hown hE
     obtain ⟨j,o2,cy,hj,rfl,rfl,HW,hown,hE⟩:=hrel
     by_cases hjt:j<nb
     · obtain ⟨Ir,rfl,hb2,hcell2⟩:=Ip (by omega)
       have hc0:=(hE.cell (p:=ad.add i) (by rw [aL];exact hb1)).trans (hcell1 i hlt)
       rw [HY.out] at hc0
       have hc1:=(hE.cell (p:=Ir.add j) (by rw [aL];exact hb2)).trans (hcell2 j hjt)
       have hxb:=dz hyl j
       have htk:=QJ.out j (by rw [HL.out.2];exact hjt)
       have hcz:=hown.rd.2 (i+j) (by rw [HW.out.len];omega)
       have hf:=hown.frozen' (i+j)
       have hzb:=dz HW.out.lt (i+j)
       have hcy:=HW.out.Bz
       obtain ⟨x,BG⟩:∃ x,lb bs j=x:=⟨_,rfl⟩
       rw [BG] at hc1 hxb htk
       obtain ⟨z,hzz⟩:∃ z,lb o2 (i+j)=z:=⟨_,rfl⟩
       rw [hzz] at hcz hzb
       obtain ⟨t,ht⟩:∃ t,x*y=t:=⟨_,rfl⟩
       have ht1:t≤18446744065119617025:=by rw [← ht];exact El hxb hyb
       have hti:(y:Int)*(x:Int)=(t:Int):=by rw [← ht,Int.natCast_mul,Int.mul_comm]
       obtain ⟨u,hu⟩:∃ u,cy+(t+z)=u:=⟨_,rfl⟩
       obtain ⟨s,hs⟩:∃ s,u%4294967296=s:=⟨_,rfl⟩
       obtain ⟨d,hd⟩:∃ d,u/4294967296=d:=⟨_,rfl⟩
       obtain ⟨hm,hsb,hdb,hub,htz⟩:=oD t z cy s d u ht1 hzb hcy hu hs hd
       have hst:=HW.out.step (by omega) t s d (by rw [hzz];exact hm) hsb hdb
       rw [Nat.add_assoc (val o),Nat.pow_add,Nat.mul_assoc,← Nat.mul_add,← ht,← Nat.mul_assoc,← Nat.add_mul,← htk] at hst
       have HST:=Lib.hid hst
       have hown2:=hown.set' (i+j) s
       have hE2:=hE.setCell (p:=⟨B,i+j,none⟩) (by rw [yM.out];exact Nat.le_refl _) (.int .u32 (s:Nat))
       have q1:IntKind.u64.wrap (t:Int)=(t:Int):=by rw [IntKind.wrap_u64];omega
       have q2:IntKind.u64.wrap ((t:Int)+(z:Int))=(t:Int)+(z:Int):=by rw [IntKind.wrap_u64];omega
       have q3:(t:Int)+(z:Int)+(cy:Int)=(u:Int):=by omega
       have q4:IntKind.u64.wrap (u:Int)=(u:Int):=by rw [IntKind.wrap_u64];omega
       have q5:IntKind.u32.wrap (u:Int)=(s:Int):=by rw [IntKind.wrap_u32];omega
       have q6:(u:Int)%4294967296=(s:Int):=by omega
       have q7:(u:Int)/4294967296=(d:Int):=by omega
       have q8:IntKind.u64.wrap (x:Int)=(x:Int):=by rw [IntKind.wrap_u64];omega
       have q9:IntKind.u64.wrap (y:Int)=(y:Int):=by rw [IntKind.wrap_u64];omega
       have q10:IntKind.u64.wrap (z:Int)=(z:Int):=by rw [IntKind.wrap_u64];omega
       have q11:(u:Int)%18446744073709551616=(u:Int):=by omega
       have q12:(t:Int)%18446744073709551616=(t:Int):=by omega
       have q13:((t:Int)+(z:Int))%18446744073709551616=(t:Int)+(z:Int):=by omega
       have q14:IntKind.i64.wrap ((i:Int)+(j:Int))=(i:Int)+(j:Int):=IntWalk.i64_in _ (by omega)
       have q15:(0:Int)≤(i:Int)+(j:Int):=by omega
       have q16:(i:Int)+(j:Int)<(n:Int):=by omega
       have q17:((i:Int)+(j:Int)).toNat=i+j:=by omega
       have q18:(0:Int)≤(i:Int):=by omega
       have q19:(i:Int)<(na:Int):=by omega
       have q20:(0:Int)≤(j:Int):=by omega
       have q21:(j:Int)<(nb:Int):=by omega
       clear hst htk BG hzz ht hu hs hd hm HW hxb hzb ht1 hcy hown2 hE2
       have HOWN:=Lib.hid hown
       have UE:=Lib.hid hE
       clear hown hE
       go_wp2_with (fail)
       go_quiet (fail)
       have hown2:=(HOWN.out.ext (iF wr nq)).set' (i+j) s
       have hE2:=(UE.out.below (iF wr nq)).setCell (p:=⟨B,i+j,none⟩) (by rw [yM.out];exact Nat.le_refl _) (.int .u32 (s:Nat))
       go_wp2
       go_roundw
       case rel=>exact ⟨j+1,_,d,by omega,by go_num,rfl,HST,hown2,hE2⟩
       case measure=>simp [intOf];omega
     · obtain rfl:j=nb:=by omega
       have hcz:=hown.rd.2 (i+j) (by rw [HW.out.len];omega)
       have hf:=hown.frozen' (i+j)
       have hl0:lb o2 (i+j)=0:=by rw [HW.out.out _ (Nat.le_refl _)];exact hno.out
       have hws:=oN o2 (i+j) cy (by rw [HW.out.len];omega)
       rw [hl0,Nat.mul_zero,Nat.add_zero,HW.out.val,HT2.out.1] at hws
       have qx:(Value.int .u32 (lb o2 (i+j):Nat)) = .int .u32 0:=by rw [hl0];rfl
       rw [qx] at hcz
       have sP:=HW.out.Bz
       have q5:IntKind.u32.wrap (cy:Int)=(cy:Int):=by rw [IntKind.wrap_u32];omega
       have q6:(cy:Int)%4294967296=(cy:Int):=by omega
       have hown2:=hown.set' (i+j) cy
       have hE2:=hE.setCell (p:=⟨B,i+j,none⟩) (by rw [yM.out];exact Nat.le_refl _) (.int .u32 (cy:Nat))
       have HST:Hid (GZ bs gV n (i+1) (o2.set (i+j) cy)):=by
        refine ⟨by rw [List.length_set];exact HW.out.len,iQ HW.out.lt sP,?_,fun m hm=>?_⟩
        · rw [hws,sO.out,Nat.mul_add,← HO.out.val,Nat.mul_left_comm]
        · rw [HL.out.2] at hm
          rw [dA _ (by omega),HW.out.out _ (by omega)]
          exact HO.out.out m (by rw [HL.out.2];omega)
       have g12:(i:Int)+(j:Int)<(n:Int):=by omega
       have g13:i+j<n:=by omega
       clear hl0 hws qx hown hE HW sP sO hno
       go_wp2
       go_roundw
       case rel=>exact ⟨i+1,_,by omega,by go_num,HST,hown2,hE2⟩
       case measure=>simp [intOf];omega
  · obtain rfl:i=na:=by omega
    have hu:=hown.BJ HO.out.lt (by rw [HO.out.len];omega)
    have hvv:=HO.out.val
    rw [HT2.out.2,Nat.mul_comm] at hvv
    have HV:=Lib.hid hvv
    have hol:=HO.out.len
    clear hown HO hvv
    go_wp2_with (fail)
    refine (dZ _ _ _ hu (by omega)).mono ?_
    rintro e w2 ⟨⟨u,rfl,hu2⟩,hB2⟩
    rw [HV.out] at hu2
    have hE2:=hE.below hB2
    have HF:Hid (∃ u',Ending.returned u = .returned u'∧Un w2 u' (val gV*val bs)):=⟨_,rfl,hu2⟩
    clear hu2 hu hB2
    go_wp2
    go_ret
    exact ⟨HF.out,hE2⟩
end Go.Proofs.YtgcieamfidoaoaaGreatDoor
namespace Go.Proofs.YtgcieamfidoaoaaGreatDoor
open Go.RowKit
set_option maxRecDepth 100000
theorem kD (w:World) (v:Value) (xs:List Nat) (h:U w v xs) (b:Bool) (hb:fG xs=b) :
  Calls Tryz.prog 46 #[v] w fun e w'=>e = .returned (.bool b)∧Ext w w' :=
 (jL w v xs h).mono fun e w' ⟨he,hw⟩=>⟨by rw [he,hb],by rw [← hw];exact Ext.refl w⟩
end Go.Proofs.YtgcieamfidoaoaaGreatDoor
namespace Go.Proofs.YtgcieamfidoaoaaGreatDoor
open Go.RowKit
set_option maxRecDepth 100000
theorem Sz.lit {z:Int} {K:Nat} (h:z.natAbs<4294967296) (hk:1≤K):Sz z K:=Nat.le_trans (kN (k:=1) (by rw [Nat.pow_one];exact h)) hk
end Go.Proofs.YtgcieamfidoaoaaGreatDoor
namespace Go.Proofs.YtgcieamfidoaoaaGreatDoor
open Go.RowKit
set_option maxRecDepth 100000
theorem Sz.cut {w:World} {v:Value} {xs:List Nat} (u:U w v xs) (b:Bool) (k K:Nat) (hk:k≤K):Sz (sg b (aS xs k)) K:=by
 show (limbs (sg b (aS xs k)).natAbs).length≤K
 rw [lZ]
 exact Nat.le_trans (l7 xs k u.lim) hk
end Go.Proofs.YtgcieamfidoaoaaGreatDoor
namespace Go.Proofs.YtgcieamfidoaoaaGreatDoor.Dy
set_option maxRecDepth 100000
def cl (v:Rat):Int := -(-v).floor
def UF (d:Nat) (v:Rat):Int :=
 if d=0 then v.floor else if d=1 then cl v
 else if d=2 then (if v<0 then cl v else v.floor)
 else if d=3 then (if v<0 then v.floor else cl v)
 else if v-v.floor<1/2 then v.floor else if 1/2<v-v.floor then cl v
 else if v.floor%2=0 then v.floor else cl v
def cut (d:Nat) (v:Rat) (n:Int):Rat:=dv (UF d (v*2^n)) (-n)
end Go.Proofs.YtgcieamfidoaoaaGreatDoor.Dy
namespace Go.Proofs.YtgcieamfidoaoaaGreatDoor.Rf
open Go Go.RowKit Go.Proofs.YtgcieamfidoaoaaGreatDoor.Pl
set_option maxRecDepth 100000
section
variable {P:Program} {Q:Exit→Act→World→Prop} {n:Nat} {ds:List Deferred} {w0:World} {cs:List Code} {l:Fr} {B:Bx} {Γ:Gm} {L:List Oper}
theorem oO {r:nu} {i m d:Nat} {o:Oper} {x:Operand} {s t:TypeId} {kd kd':IntKind} {a:Int} (c:Int) (hu:P.underlying t=some (.int kd')) (hs:(P.underlying s).isSome=true) (h1:kd'.wrap a=c) (ho:nth L i=some o) (hop:o.op = .convert s t x) (hd:o.dst=some d) (hg:jT L l o.guard=some true) (hx:ev l x=some (.v (.int kd a)))
 (h:HA P Q n ds w0 cs L r ((d,.v (.int kd' c))::l) B Γ):HA P Q n ds w0 cs L ((false,i,m)::r) l B Γ:=fun α γ w hH=>xI hu hs h1 trivial ho hop hd (gy hg α γ) (bT hx) (h α γ w hH)
end
section
variable {P:Program} {T:TypeId} {x y:Operand} {w:World} {f:Nat→Value} {p:Int→Prop}
theorem l8 (a b:Int) (X:World):Bn P .eql T x y (.int .i64 a) (.int .i64 b) X = .ok (.bool (decide (a=b))) X:=by
 by_cases h:a=b
 · rw [decide_eq_true h];exact aM h X
 · rw [decide_eq_false h];exact aK h X
end
end Go.Proofs.YtgcieamfidoaoaaGreatDoor.Rf
namespace Go.Proofs.YtgcieamfidoaoaaGreatDoor.Rf
open Go Go.RowKit Go.Proofs.YtgcieamfidoaoaaGreatDoor.Pl
set_option maxRecDepth 100000
section
variable {P:Program} {Q:Exit→Act→World→Prop} {n:Nat} {ds:List Deferred} {w0:World} {cs:List Code} {l:Fr} {B:Bx} {Γ:Gm} {L:List Oper}
theorem jZ {r:nu} {i m d:Nat} {o:Oper} {x y:Operand} {op:BinOp} {tx ty:TypeId} {u u':Value} {p:Prop} {ip:Decidable p} (hr:∀ X,Bn P op tx x y u u' X = .ok (.bool (decide p)) X)
  (e:(nth L i,o.op,o.dst,jT L l o.guard,ev l x,ev l y)=(some o,.binOp op tx x y ty,some d,some true,some (.v u),some (.v u')))
  (h1:p→HA P Q n ds w0 cs L r ((d,.v (.bool true))::l) B Γ) (h2:¬ p→HA P Q n ds w0 cs L r ((d,.v (.bool false))::l) B Γ):HA P Q n ds w0 cs L ((false,i,m)::r) l B Γ:=by
 simp only [Prod.mk.injEq] at e
 exact rz hr e.1 e.2.1 e.2.2.1 e.2.2.2.1 e.2.2.2.2.1 e.2.2.2.2.2 h1 h2
variable {ord:Option (List Nat)} {l0:Fr} {B0:Bx} {Γ0:Gm} {tr:Tr}
end
end Go.Proofs.YtgcieamfidoaoaaGreatDoor.Rf
namespace Go.Proofs.YtgcieamfidoaoaaGreatDoor.Fm
open Dy
open Classical in
set_option maxRecDepth 100000
theorem jS {b p:Nat} (hb:2≤b) (hp:1≤p) {lo hi:Int} {d:Nat} {q:Rat} (hl:lo≤hi):bO b p lo hi (rd b p lo hi d q):=(vL hb hp lo hi d q).ok hb hp hl
end Go.Proofs.YtgcieamfidoaoaaGreatDoor.Fm
namespace Go.Proofs.YtgcieamfidoaoaaGreatDoor
open Go.RowKit 
set_option maxRecDepth 100000
theorem iK (w:World) (vn vd:Value) (n d:Int) (q:Rat) (hn:Zn w vn n) (hd:Zn w vd d) (L M:Nat) (ln:Sz n L) (ld:Sz d M) (hL:L≤100) (hM:M≤100) (hd0:d≠0) (hq:Rat.divInt n d=q) :
  Calls Tryz.prog 66 #[vn,vd] w fun e w'=>∃ u,e = .returned u∧Qn w' u q L M∧Pl.Ex w w':=by
 obtain ⟨An,cn,rfl,un⟩:=hn
 obtain ⟨Ad,cd,rfl,ud⟩:=hd
 refine Pl.dF (n:=14) (vs:=[.agg #[.bool (decide (n<0)),.slice An (limbs (Int.natAbs n)).length cn],.agg #[.bool (decide (d<0)),.slice Ad (limbs (Int.natAbs d)).length cd]]) Tryz.func66 rfl (by kernel_rfl) (by simp) ?_
 repeat refine Pl.aG ?_
 refine Pl.aB (by kernel_rfl) ?_
 refine Pl.oW (cs:=[.bool (decide (n<0)),.slice An (limbs (Int.natAbs n)).length cn]) rfl rfl rfl rfl rfl rfl (fun Y hY=>trivial) ?_
 intro N1 w1 hE1 vM eX
 have DT:=Pl.Cb.lt eX
 have Tx:=Pl.Ex.size hE1
 refine Pl.oW (cs:=[.bool (decide (d<0)),.slice Ad (limbs (Int.natAbs d)).length cd]) rfl rfl rfl rfl rfl rfl (fun Y hY=>trivial) ?_
 intro N2 w2 hE2 zV eO
 have Iw:=Pl.Cb.lt eO
 have UO:=Pl.Ex.size hE2
 refine Pl.mI (z:=.agg #[.bool false,.slice none 0 0,.slice none 0 0]) (by kernel_rfl) rfl rfl rfl rfl (fun Y hY=>trivial) ?_
 intro N3 w3 gF Iy eF
 have QY:=Pl.Cb.lt eF
 have UQ:=Pl.Ex.size gF
 replace eF:Pl.Cb w3 N3 36 [.bool false,.slice none 0 0,.slice none 0 0]:=eF
 refine Pl.aH ?_
 repeat refine Pl.aG ?_
 refine Pl.aB (by kernel_rfl) ?_
 refine Pl.jA (part:=[.bool (decide (n<0)),.slice An (limbs (Int.natAbs n)).length cn]) (Pl.Cb.ex eX (Pl.Ex.trans hE2 gF)) rfl Tryz.underlying34 rfl (by kernel_rfl) trivial rfl rfl rfl rfl rfl ?_
 refine Pl.jA (part:=[.bool (decide (d<0)),.slice Ad (limbs (Int.natAbs d)).length cd]) (Pl.Cb.ex eO gF) rfl Tryz.underlying34 rfl (by kernel_rfl) trivial rfl rfl rfl rfl rfl ?_
 refine Pl.bX rfl rfl rfl rfl rfl (Pl.en Tryz.func59) ?_
 refine Calls.mono (kK _ _ _ n d (Zn.of (Un.below un (Pl.Ex.trans hE1 (Pl.Ex.trans hE2 gF)))) (Zn.of (Un.below ud (Pl.Ex.trans hE1 (Pl.Ex.trans hE2 gF)))) L M ln ld hL hM hd0) ?_
 rintro e w4 ⟨vq,rfl,vO,kM⟩
 rw [hq] at vO
 obtain ⟨A1,c1,A2,c2,rfl,u1,u2,z1,z2⟩:=vO
 have WC:=Pl.Ex.size kM
 refine ⟨_,rfl,trivial,?_⟩
 refine Pl.jB trivial rfl ?_
 refine Pl.mI (z:=.agg #[.bool false,.slice none 0 0,.slice none 0 0]) (by kernel_rfl) rfl rfl rfl rfl (fun Y hY=>trivial) ?_
 intro N4 w5 nC QZ jO
 have YC:=Pl.Cb.lt jO
 have Z4:=Pl.Ex.size nC
 replace jO:Pl.Cb w5 N4 36 [.bool false,.slice none 0 0,.slice none 0 0]:=jO
 refine Pl.lI (new:=[.bool (decide ((Rat.num q)<0)),.slice A1 (limbs (Int.natAbs (Rat.num q))).length c1,.slice A2 (limbs (Rat.den q)).length c2]) jO (by kernel_rfl) rfl (by simp [Value.oneCell']) rfl rfl rfl rfl rfl rfl (fun Y hY=>trivial) ?_
 intro w6 zW oZ
 have mG:=Pl.Ex.xs nC zW (by omega)
 have Ty:=Pl.Xs.size zW
 refine Pl.jB trivial rfl ?_
 refine Pl.aH ?_
 repeat refine Pl.aG ?_
 refine Pl.aB (by kernel_rfl) ?_
 refine Pl.jA (part:=[.bool (decide ((Rat.num q)<0)),.slice A1 (limbs (Int.natAbs (Rat.num q))).length c1,.slice A2 (limbs (Rat.den q)).length c2]) oZ rfl Tryz.underlying36 rfl (by kernel_rfl) trivial rfl rfl rfl rfl rfl ?_
 refine Pl.lI (new:=[.bool (decide ((Rat.num q)<0)),.slice A1 (limbs (Int.natAbs (Rat.num q))).length c1,.slice A2 (limbs (Rat.den q)).length c2]) (Pl.Cb.ex eF (Pl.Ex.trans kM mG)) (by kernel_rfl) rfl (by simp [Value.oneCell']) rfl rfl rfl rfl rfl rfl (fun Y hY=>trivial) ?_
 intro w7 yQ mV
 have pg:=Pl.Ex.xs (Pl.Ex.trans gF (Pl.Ex.trans kM mG)) yQ (by omega)
 have Tz:=Pl.Xs.size yQ
 have Km:=Pl.Cb.xs oZ yQ (by simp;omega)
 refine Pl.aH ?_
 have k5:=Un.xs (Un.below u1 mG) yQ (Pl.Cb.ex eF (Pl.Ex.trans kM mG)) (by simp)
 have k6:=Un.xs (Un.below u2 mG) yQ (Pl.Cb.ex eF (Pl.Ex.trans kM mG)) (by simp)
 repeat refine Pl.aG ?_
 exact Pl.lJ rfl rfl mV Tryz.underlying36 rfl (by kernel_rfl) (⟨_,rfl,(Qn.mk k5 k6 z1 z2),(Pl.Ex.trans hE1 (Pl.Ex.trans hE2 pg))⟩)
end Go.Proofs.YtgcieamfidoaoaaGreatDoor
namespace Go.Proofs.YtgcieamfidoaoaaGreatDoor
open Go.RowKit
set_option maxRecDepth 100000
theorem mg (w:World) (va vb:Value) (n m k K:Nat) (hK:K≤1000) (ha:Un w va n) (hb:Un w vb m) (hn:(limbs n).length≤K) (hm:(limbs m).length≤K) (hk:n*m=k) :
  Calls Tryz.prog 82 #[va,vb] w fun e w'=>∃ u,e = .returned u∧Un w' u k∧Ext w w':=by
 refine (fH w va vb _ _ _ _ ha hb rfl rfl (by omega) (by omega)).mono ?_
 rw [aJ,aJ,hk]
 rintro e w' ⟨⟨u,h1,h2⟩,h3⟩
 exact ⟨u,h1,h2,h3⟩
theorem xL (K:Nat) (hK:K≤1000) (w:World) (va:Value) (a n:Nat) (hu:Un w va a) (h1:1≤a) (hal:(limbs a).length≤K) (hlim:(limbs (a^n)).length≤K) (hn:n≤100000) (k:Nat) (hk:a^n=k) :
  Calls Tryz.prog 83 #[va,.int .i64 (n:Nat)] w fun e w'=>∃ u,e = .returned u∧Un w' u k∧Ext w w':=by
 subst hk
 have QE:Hid (∀ x,x=a→(limbs x).length≤K):=fun x e=>by rw [e];exact hal
 have NY:Hid (∀ e,e≤n→(limbs (a^e)).length≤K):=fun e he=>Sn.down (n:=a^n) (K:=K) hlim (Nat.pow_le_pow_right h1 he)
 have HS:=Lib.hid (fun W va vb n m k=>mg W va vb n m k K hK)
 clear hlim h1 hK
 obtain ⟨A,ca,rfl,hca⟩:=U.shape (U.dX hu)
 have hE0:=(Ext.refl w).alloc (.cells #[.int .u32 1] 57)
 have hone:Un (w.alloc (.cells #[.int .u32 1] 57)) (.slice (some ⟨w.heap.size,0,none⟩) 1 1) 1:=uI w _ rfl 1 (by decide) (by decide)
 have hu1:Un (w.alloc (.cells #[.int .u32 1] 57)) (.slice A (limbs a).length ca) a:=U.below (U.dX hu) hE0
 clear hal
 generalize (limbs a).length=la at *
 clear hu
 go_enter Tryz.func83,Tryz.ntmps83
 go_wp2
 go_loopw [6,5] (fun t s wr=>∃ (j:Nat),j≤n∧t = .int .i64 (j:Nat)∧Un wr s (a^j)∧Un wr (.slice A la ca) a∧Ext w wr) (fun t _ _=>n-(intOf t).toNat)
 case atStart=>exact ⟨0,Nat.zero_le _,rfl,by rw [Nat.pow_zero];exact hone,hu1,hE0⟩
 case round =>
  clear hone hu1 hE0
  obtain ⟨j,hj,rfl,hz,uL,hE⟩:=hrel
  obtain ⟨A2,c2,rfl,hcc⟩:=U.shape (U.dX hz)
  by_cases hlt:j<n
  · have hM:=Lib.hid (HS.out wr _ _ (a^j) a (a^(j+1)) hz uL (NY.out j hj) (QE.out a rfl) (Nat.pow_succ a j).symm)
    generalize (limbs (a^j)).length=lz at *
    clear hz
    go_wp2_with (fail)
    refine hM.out.mono ?_
    rintro e w2 ⟨u,rfl,hu2,hB⟩
    replace uL:=U.below (U.dX uL) hB
    replace hE:=hE.below hB
    clear hM hB
    go_wp2
    go_roundw
    case rel=>exact ⟨j+1,by omega,by go_num,hu2,uL,hE⟩
    case measure=>simp [intOf];omega
  · obtain rfl:j=n:=by omega
    have HF:Hid (∃ u',Ending.returned (.slice A2 (limbs (a^j)).length c2) = .returned u'∧Un wr u' (a^j)∧Ext w wr):=⟨_,rfl,hz,hE⟩
    clear hz hE
    go_wp2
    go_ret
    exact HF.out
end Go.Proofs.YtgcieamfidoaoaaGreatDoor
namespace Go.Proofs.YtgcieamfidoaoaaGreatDoor
open Go.RowKit Rf Fm
set_option maxRecDepth 100000
theorem nM {n:Nat} {neg:Bool} {K:Nat} (h:Sn n K):Sz (sg neg n) K:=by show (limbs (sg neg n).natAbs).length≤K;rw [lZ];exact h
theorem xM {b:Nat} (hb:b=2∨b=10):Sn b 1:=Sn.of (by rcases hb with h | h<;>rw [h]<;>decide)
theorem bg (w:World) (b p k:Nat) (lo hi z:Int) (hb:b=2∨b=10) (hz:z=((k:Nat):Int)) (hk:k≤303) :
  Calls Tryz.prog 36 #[.agg #[.int .i64 ((b:Nat):Int),.int .i64 ((p:Nat):Int),.int .i64 lo,.int .i64 hi],.int .i64 z] w fun e w'=>∃ u,e = .returned u∧Un w' u (b^k)∧Pl.Ex w w':=by
 have hb2:2≤b∧b≤10:=by omega
 have hpk:b^k=b^k:=rfl
 subst hz
 refine Rf.aA (n:=11) [.a [vI ((b:Nat):Int),vI ((p:Nat):Int),vI lo,vI hi],vI ((k:Nat):Int)] [] [] Tryz.func36 rfl (by kernel_rfl) rfl rfl trivial ?_
 refine Rf.bu aa 1 0 rfl ?_
 refine Rf.oO ((b:Nat):Int) Tryz.underlying57 (by kernel_rfl) (Pl.w32 (by omega) (by omega)) rfl rfl rfl rfl rfl ?_
 refine Rf.mH (e := 57) (m:=1) [.int .u32 ((b:Nat):Int)] 0 (dW b) rfl rfl rfl (fun _ _=>rfl) (fun α γ X=>by kernel_rfl) rfl (fun N w k=>Un.one (x:=b) k rfl (by omega)) ?_
 refine Rf.ay aa 1 rfl ?_
 refine Rf.aC 1 _ _ rfl (Pl.en Tryz.func83) (fun α γ w h=>dO 1 (xL 78 (by decide) _ _ b k (h.r 0 rfl) (by omega) (Nat.le_trans (xM hb) (by decide)) (Nat.le_trans (bK hb (by omega):Sn (b^k) 38) (by decide)) (by omega) _ rfl)) ?_
 refine Rf.HY aa 0 1 rfl ?_
 exact Rf.aI aa (fun _ _ h=>h) rfl rfl (fun α γ w h=>⟨_,rfl,h.r 1 rfl,h.ex⟩)
theorem oU (w:World) (p:Nat) (lo hi:Int) (hf:fT 2 p lo hi) :
  Calls Tryz.prog 14 #[.agg #[.int .i64 2,.int .i64 ((p:Nat):Int),.int .i64 lo,.int .i64 hi]] w fun e w'=>e = .returned (.bool true)∧Pl.Ex w w':=by
 have f1:=hf.p1
 have f2:=hf.ku
 have f3:=hf.l
 have f4:=hf.l1
 have f5:=hf.h1
 refine Rf.aA (n:=38) [.a [vI 2,vI ((p:Nat):Int),vI lo,vI hi]] [] [] Tryz.func14 rfl (by kernel_rfl) rfl rfl trivial ?_
 refine Rf.bu aa 1 0 rfl ?_
 refine Rf.ah (v:=.bool true) (fun X=>aM (by decide) X) rfl ?_
 refine Rf.ay aa 1 rfl ?_
 refine Rf.ah (v:=.bool true) (fun X=>bS (by omega) X) rfl ?_
 refine Rf.ay aa 1 rfl ?_
 refine Rf.ah (v:=.bool true) (fun X=>cO (by omega) X) rfl ?_
 refine Rf.ay aa 1 rfl ?_
 refine Rf.ah (v:=.bool true) (fun X=>cO (by omega) X) rfl ?_
 refine Rf.ay aa 1 rfl ?_
 refine Rf.ah (v:=.bool true) (fun X=>bS (by omega) X) rfl ?_
 refine Rf.ay aa 1 rfl ?_
 refine Rf.ah (v:=.bool true) (fun X=>cO (by omega) X) rfl ?_
 refine Rf.HY aa 0 1 rfl ?_
 exact Rf.aI aa (fun _ _ h=>h) rfl rfl (fun α γ w h=>⟨rfl,h.ex⟩)
theorem mR (w:World) (p:Nat) (lo hi:Int) (hf:fT 10 p lo hi) :
  Calls Tryz.prog 14 #[.agg #[.int .i64 10,.int .i64 ((p:Nat):Int),.int .i64 lo,.int .i64 hi]] w fun e w'=>e = .returned (.bool true)∧Pl.Ex w w':=by
 have f1:=hf.p1
 have f2:=hf.ku
 have f3:=hf.l
 have f4:=hf.l1
 have f5:=hf.h1
 refine Rf.aA (n:=38) [.a [vI 10,vI ((p:Nat):Int),vI lo,vI hi]] [] [] Tryz.func14 rfl (by kernel_rfl) rfl rfl trivial ?_
 refine Rf.bu aa 1 0 rfl ?_
 refine Rf.ah (v:=.bool false) (fun X=>aK (by decide) X) rfl ?_
 refine Rf.ay aa 1 rfl ?_
 refine Rf.ah (v:=.bool true) (fun X=>aM (by decide) X) rfl ?_
 refine Rf.ay aa 1 rfl ?_
 refine Rf.ah (v:=.bool true) (fun X=>bS (by omega) X) rfl ?_
 refine Rf.ay aa 1 rfl ?_
 refine Rf.ah (v:=.bool true) (fun X=>cO (by omega) X) rfl ?_
 refine Rf.ay aa 1 rfl ?_
 refine Rf.ah (v:=.bool true) (fun X=>cO (by omega) X) rfl ?_
 refine Rf.ay aa 1 rfl ?_
 refine Rf.ah (v:=.bool true) (fun X=>bS (by omega) X) rfl ?_
 refine Rf.ay aa 1 rfl ?_
 refine Rf.ah (v:=.bool true) (fun X=>cO (by omega) X) rfl ?_
 refine Rf.HY aa 0 1 rfl ?_
 exact Rf.aI aa (fun _ _ h=>h) rfl rfl (fun α γ w h=>⟨rfl,h.ex⟩)
theorem dh (w:World) (b p:Nat) (lo hi:Int) (hf:fT b p lo hi) :
  Calls Tryz.prog 14 #[.agg #[.int .i64 ((b:Nat):Int),.int .i64 ((p:Nat):Int),.int .i64 lo,.int .i64 hi]] w fun e w'=>e = .returned (.bool true)∧Pl.Ex w w':=by
 rcases hf.r with rfl | rfl
 · exact oU w p lo hi hf
 · exact mR w p lo hi hf
end Go.Proofs.YtgcieamfidoaoaaGreatDoor
namespace Go.Proofs.YtgcieamfidoaoaaGreatDoor
open Go.RowKit Rf Fm
set_option maxRecDepth 100000
theorem oV {b p:Nat} {lo hi m:Int} (hf:fT b p lo hi) (h0:0<m) (h:m<((b^p:Nat):Int)):(limbs (Int.natAbs m)).length≤p:=Sn.down (n:=b^p) (K:=p) (bK hf.r (by have:=hf.p1;omega)) (by omega)
theorem rA (w:World) (va:Value) (n9:Bool) (ha:Fv w va (.zero n9)) (b p:Nat) (lo hi:Int) (hf:fT b p lo hi) :
  Calls Tryz.prog 16 #[.agg #[.int .i64 ((b:Nat):Int),.int .i64 ((p:Nat):Int),.int .i64 lo,.int .i64 hi],va] w fun e w'=>e = .returned (.bool true)∧Pl.Ex w w':=by
 obtain ⟨Aa,ca,rfl,ua⟩:=ha
 refine Rf.aA (n:=88) [.a [vI ((b:Nat):Int),vI ((p:Nat):Int),vI lo,vI hi],.a [vI 0,vB n9,.c 0 0,vI 0]] [[.slice Aa (limbs 0).length ca]] [(0,(dW 0).S)] Tryz.func16 rfl (by kernel_rfl) rfl rfl ⟨RS.in ua,trivial⟩ ?_
 refine Rf.bu aa 1 0 rfl ?_
 refine Rf.aC 1 _ _ rfl (Pl.en Tryz.func14) (fun α γ w h=>aU 1 (dh _ b p lo hi hf)) ?_
 refine Rf.aV (.bool false) rfl (fun X=>aT _ X) ?_
 refine Rf.ay aa 2 rfl ?_
 refine Rf.ah (v:=.bool false) (fun X=>bM (by decide) X) rfl ?_
 refine Rf.ay aa 2 rfl ?_
 refine Rf.ah (v:=.bool false) (fun X=>bz (by decide) X) rfl ?_
 refine Rf.bY aa 2 2 rfl ?_
 refine Rf.ah (v:=.bool true) (fun X=>fU (by decide) X) rfl ?_
 refine Rf.bY aa 1 2 rfl ?_
 refine Rf.dD ((limbs 0).length) Tryz.underlying24 rfl rfl rfl rfl rfl rfl (fun w f h=>Un.jX h) ?_
 refine Rf.ah (v:=.bool true) (fun X=>aM (by rw [aX];rfl) X) rfl ?_
 refine Rf.ay aa 2 rfl ?_
 refine Rf.ah (v:=.bool true) (fun X=>aM (by decide) X) rfl ?_
 refine Rf.HY aa 0 2 rfl ?_
 exact Rf.aI aa (fun _ _ h=>h) rfl rfl (fun α γ w h=>⟨rfl,h.ex⟩)
theorem rC (w:World) (va:Value) (n9:Bool) (ha:Fv w va (.inf n9)) (b p:Nat) (lo hi:Int) (hf:fT b p lo hi) :
  Calls Tryz.prog 16 #[.agg #[.int .i64 ((b:Nat):Int),.int .i64 ((p:Nat):Int),.int .i64 lo,.int .i64 hi],va] w fun e w'=>e = .returned (.bool true)∧Pl.Ex w w':=by
 obtain ⟨Aa,ca,rfl,ua⟩:=ha
 refine Rf.aA (n:=88) [.a [vI ((b:Nat):Int),vI ((p:Nat):Int),vI lo,vI hi],.a [vI 2,vB n9,.c 0 0,vI 0]] [[.slice Aa (limbs 0).length ca]] [(0,(dW 0).S)] Tryz.func16 rfl (by kernel_rfl) rfl rfl ⟨RS.in ua,trivial⟩ ?_
 refine Rf.bu aa 1 0 rfl ?_
 refine Rf.aC 1 _ _ rfl (Pl.en Tryz.func14) (fun α γ w h=>aU 1 (dh _ b p lo hi hf)) ?_
 refine Rf.aV (.bool false) rfl (fun X=>aT _ X) ?_
 refine Rf.ay aa 2 rfl ?_
 refine Rf.ah (v:=.bool false) (fun X=>bM (by decide) X) rfl ?_
 refine Rf.ay aa 2 rfl ?_
 refine Rf.ah (v:=.bool false) (fun X=>bz (by decide) X) rfl ?_
 refine Rf.bY aa 2 2 rfl ?_
 refine Rf.ah (v:=.bool true) (fun X=>fU (by decide) X) rfl ?_
 refine Rf.bY aa 1 2 rfl ?_
 refine Rf.dD ((limbs 0).length) Tryz.underlying24 rfl rfl rfl rfl rfl rfl (fun w f h=>Un.jX h) ?_
 refine Rf.ah (v:=.bool true) (fun X=>aM (by rw [aX];rfl) X) rfl ?_
 refine Rf.ay aa 2 rfl ?_
 refine Rf.ah (v:=.bool true) (fun X=>aM (by decide) X) rfl ?_
 refine Rf.HY aa 0 2 rfl ?_
 exact Rf.aI aa (fun _ _ h=>h) rfl rfl (fun α γ w h=>⟨rfl,h.ex⟩)
theorem rD (w:World) (va:Value) (n9:Bool) (m e0:Int) (ha:Fv w va (.fin n9 m e0)) (b p:Nat) (lo hi:Int) (hf:fT b p lo hi) (hs0:Sn (Int.natAbs m) 38) (h1:lo≤e0) (h2:e0≤hi) (h3:0<m) (h4:m<((b^p:Nat):Int)) (h5:e0=lo) :
  Calls Tryz.prog 16 #[.agg #[.int .i64 ((b:Nat):Int),.int .i64 ((p:Nat):Int),.int .i64 lo,.int .i64 hi],va] w fun e w'=>e = .returned (.bool true)∧Pl.Ex w w':=by
 have f1:=hf.p1
 have f2:=hf.ku
 have f3:=hf.l
 have f4:=hf.l1
 have f5:=hf.h1
 obtain ⟨Aa,ca,rfl,ua⟩:=ha
 have hs:Sn (Int.natAbs m) 38:=hs0
 have hlp:=oV hf h3 h4
 refine Rf.aA (n:=88) [.a [vI ((b:Nat):Int),vI ((p:Nat):Int),vI lo,vI hi],.a [vI 1,vB n9,.c 0 0,vI e0]] [[.slice Aa (limbs (Int.natAbs m)).length ca]] [(0,(dW (Int.natAbs m)).S)] Tryz.func16 rfl (by kernel_rfl) rfl rfl ⟨RS.in ua,trivial⟩ ?_
 refine Rf.bu aa 1 0 rfl ?_
 refine Rf.aC 1 _ _ rfl (Pl.en Tryz.func14) (fun α γ w h=>aU 1 (dh _ b p lo hi hf)) ?_
 refine Rf.aV (.bool false) rfl (fun X=>aT _ X) ?_
 refine Rf.ay aa 2 rfl ?_
 refine Rf.ah (v:=.bool false) (fun X=>bM (by decide) X) rfl ?_
 refine Rf.ay aa 2 rfl ?_
 refine Rf.ah (v:=.bool false) (fun X=>bz (by decide) X) rfl ?_
 refine Rf.bY aa 2 2 rfl ?_
 refine Rf.ah (v:=.bool false) (fun X=>bE (by decide) X) rfl ?_
 refine Rf.bY aa 2 2 rfl ?_
 refine Rf.dD ((limbs (Int.natAbs m)).length) Tryz.underlying24 rfl rfl rfl rfl rfl rfl (fun w f h=>Un.jX h) ?_
 refine Rf.ah (v:=.bool false) (fun X=>aK (fun h=>by rw [Int.ofNat_eq_zero,jQ] at h;omega) X) rfl ?_
 refine Rf.ay aa 2 rfl ?_
 refine Rf.aC 2 _ _ rfl (Pl.en Tryz.func46) (fun α γ w h=>aU 2 (kD _ _ (limbs (Int.natAbs m)) (h.r 0 rfl) true (fM (Sn.le hs (by decide))))) ?_
 refine Rf.aV (.bool false) rfl (fun X=>aT _ X) ?_
 refine Rf.ay aa 2 rfl ?_
 refine Rf.ah (v:=.bool false) (fun X=>bM (by omega) X) rfl ?_
 refine Rf.ay aa 2 rfl ?_
 refine Rf.ah (v:=.bool false) (fun X=>bz (by omega) X) rfl ?_
 refine Rf.ay aa 2 rfl ?_
 refine Rf.dD ((limbs (Int.natAbs m)).length) Tryz.underlying24 rfl rfl rfl rfl rfl rfl (fun w f h=>Un.jX h) ?_
 refine Rf.ay aa 2 rfl ?_
 refine Rf.ah (v:=.bool false) (fun X=>bz (by omega) X) rfl ?_
 refine Rf.HY aa 2 2 rfl ?_
 refine Rf.aQ none fo ?_
 refine Rf.aD aa 27 2 rfl ?_
 refine Rf.ak 3 _ _ rfl (Pl.en Tryz.func36) (fun α γ w h=>dO 3 (bg _ b p p lo hi ((p:Nat):Int) hf.r (by omega) (by omega))) ?_
 refine Rf.ak 4 _ _ rfl (Pl.en Tryz.func47) (fun α γ w h=>aU 4 (jk _ _ _ (Int.natAbs m) (b^p) (h.r 0 rfl) (h.r 3 rfl) (Nat.le_trans hs (by decide)) (Nat.le_trans (bK hf.r (by omega):Sn (b^p) 38) (by decide)) _ rfl)) ?_
 refine Rf.dL (vT) rfl (fun α γ w h=>(fun X=>bL (je.2 (by omega)) X) w) ?_
 refine Rf.aD aa 27 2 rfl ?_
 refine Rf.dL (vT) rfl (fun α γ w h=>(fun X=>aM h5 X) w) ?_
 refine Rf.aD aa 27 2 rfl ?_
 refine Rf.aW (by kernel_rfl) ?_
 refine Rf.aP [4] [] [] rfl ?_
 repeat refine Rf.aO ?_
 exact Rf.aI aa (fun _ _ h=>h) rfl rfl (fun α γ w h=>⟨rfl,h.ex⟩)
theorem rE (w:World) (va:Value) (n9:Bool) (m e0:Int) (ha:Fv w va (.fin n9 m e0)) (b p:Nat) (lo hi:Int) (hf:fT b p lo hi) (hs0:Sn (Int.natAbs m) 38) (h1:lo≤e0) (h2:e0≤hi) (h3:0<m) (h4:m<((b^p:Nat):Int)) (h5:¬ e0=lo) (h6:((b^(p-1):Nat):Int)≤m) :
  Calls Tryz.prog 16 #[.agg #[.int .i64 ((b:Nat):Int),.int .i64 ((p:Nat):Int),.int .i64 lo,.int .i64 hi],va] w fun e w'=>e = .returned (.bool true)∧Pl.Ex w w':=by
 have f1:=hf.p1
 have f2:=hf.ku
 have f3:=hf.l
 have f4:=hf.l1
 have f5:=hf.h1
 obtain ⟨Aa,ca,rfl,ua⟩:=ha
 have hs:Sn (Int.natAbs m) 38:=hs0
 have hlp:=oV hf h3 h4
 refine Rf.aA (n:=88) [.a [vI ((b:Nat):Int),vI ((p:Nat):Int),vI lo,vI hi],.a [vI 1,vB n9,.c 0 0,vI e0]] [[.slice Aa (limbs (Int.natAbs m)).length ca]] [(0,(dW (Int.natAbs m)).S)] Tryz.func16 rfl (by kernel_rfl) rfl rfl ⟨RS.in ua,trivial⟩ ?_
 refine Rf.bu aa 1 0 rfl ?_
 refine Rf.aC 1 _ _ rfl (Pl.en Tryz.func14) (fun α γ w h=>aU 1 (dh _ b p lo hi hf)) ?_
 refine Rf.aV (.bool false) rfl (fun X=>aT _ X) ?_
 refine Rf.ay aa 2 rfl ?_
 refine Rf.ah (v:=.bool false) (fun X=>bM (by decide) X) rfl ?_
 refine Rf.ay aa 2 rfl ?_
 refine Rf.ah (v:=.bool false) (fun X=>bz (by decide) X) rfl ?_
 refine Rf.bY aa 2 2 rfl ?_
 refine Rf.ah (v:=.bool false) (fun X=>bE (by decide) X) rfl ?_
 refine Rf.bY aa 2 2 rfl ?_
 refine Rf.dD ((limbs (Int.natAbs m)).length) Tryz.underlying24 rfl rfl rfl rfl rfl rfl (fun w f h=>Un.jX h) ?_
 refine Rf.ah (v:=.bool false) (fun X=>aK (fun h=>by rw [Int.ofNat_eq_zero,jQ] at h;omega) X) rfl ?_
 refine Rf.ay aa 2 rfl ?_
 refine Rf.aC 2 _ _ rfl (Pl.en Tryz.func46) (fun α γ w h=>aU 2 (kD _ _ (limbs (Int.natAbs m)) (h.r 0 rfl) true (fM (Sn.le hs (by decide))))) ?_
 refine Rf.aV (.bool false) rfl (fun X=>aT _ X) ?_
 refine Rf.ay aa 2 rfl ?_
 refine Rf.ah (v:=.bool false) (fun X=>bM (by omega) X) rfl ?_
 refine Rf.ay aa 2 rfl ?_
 refine Rf.ah (v:=.bool false) (fun X=>bz (by omega) X) rfl ?_
 refine Rf.ay aa 2 rfl ?_
 refine Rf.dD ((limbs (Int.natAbs m)).length) Tryz.underlying24 rfl rfl rfl rfl rfl rfl (fun w f h=>Un.jX h) ?_
 refine Rf.ay aa 2 rfl ?_
 refine Rf.ah (v:=.bool false) (fun X=>bz (by omega) X) rfl ?_
 refine Rf.HY aa 2 2 rfl ?_
 refine Rf.aQ none fo ?_
 refine Rf.aD aa 27 2 rfl ?_
 refine Rf.ak 3 _ _ rfl (Pl.en Tryz.func36) (fun α γ w h=>dO 3 (bg _ b p p lo hi ((p:Nat):Int) hf.r (by omega) (by omega))) ?_
 refine Rf.ak 4 _ _ rfl (Pl.en Tryz.func47) (fun α γ w h=>aU 4 (jk _ _ _ (Int.natAbs m) (b^p) (h.r 0 rfl) (h.r 3 rfl) (Nat.le_trans hs (by decide)) (Nat.le_trans (bK hf.r (by omega):Sn (b^p) 38) (by decide)) _ rfl)) ?_
 refine Rf.dL (vT) rfl (fun α γ w h=>(fun X=>bL (je.2 (by omega)) X) w) ?_
 refine Rf.aD aa 27 2 rfl ?_
 refine Rf.dL (vF) rfl (fun α γ w h=>(fun X=>aK h5 X) w) ?_
 refine Rf.aD aa 27 2 rfl ?_
 refine Rf.Be (vI (((p:Nat):Int)-1)) rfl rfl rfl rfl rfl rfl rfl rfl rfl rfl (fun α γ w h=>(fun X=>eH (by omega) X) w) ?_
 refine Rf.ak 5 _ _ rfl (Pl.en Tryz.func36) (fun α γ w h=>dO 5 (bg _ b p (p-1) lo hi (((p:Nat):Int)-1) hf.r (by omega) (by omega))) ?_
 refine Rf.ak 6 _ _ rfl (Pl.en Tryz.func47) (fun α γ w h=>aU 6 (jk _ _ _ (Int.natAbs m) (b^(p-1)) (h.r 0 rfl) (h.r 5 rfl) (Nat.le_trans hs (by decide)) (Nat.le_trans (bK hf.r (by omega):Sn (b^(p-1)) 38) (by decide)) _ rfl)) ?_
 refine Rf.dL (vT) rfl (fun α γ w h=>(fun X=>bS (gW.2 (by omega)) X) w) ?_
 refine Rf.aD aa 27 2 rfl ?_
 refine Rf.aW (by kernel_rfl) ?_
 refine Rf.aP [4] [] [] rfl ?_
 repeat refine Rf.aO ?_
 exact Rf.aI aa (fun _ _ h=>h) rfl rfl (fun α γ w h=>⟨rfl,h.ex⟩)
theorem bQ (w:World) (va:Value) (x:Fl) (ha:Fv w va x) (b p:Nat) (lo hi:Int) (hf:fT b p lo hi) (hx:bO b p lo hi x) :
  Calls Tryz.prog 16 #[.agg #[.int .i64 ((b:Nat):Int),.int .i64 ((p:Nat):Int),.int .i64 lo,.int .i64 hi],va] w fun e w'=>e = .returned (.bool true)∧Pl.Ex w w':=by
 cases x with
 | zero n=>exact rA w va n ha b p lo hi hf
 | inf n=>exact rC w va n ha b p lo hi hf
 | fin n m e0 =>
  have hs:=Sn.le (qb hf hx) (show 3≤38 by decide)
  obtain ⟨⟨x1,x2,x3,x4⟩,x5⟩:=hx
  by_cases h:e0=lo
  · exact rD w va n m e0 ha b p lo hi hf hs x1 x5 x2 x3 h
  · exact rE w va n m e0 ha b p lo hi hf hs x1 x5 x2 x3 h (x4.resolve_left h)
end Go.Proofs.YtgcieamfidoaoaaGreatDoor
namespace Go.Proofs.YtgcieamfidoaoaaGreatDoor
open Go.RowKit Rf Fm
set_option maxRecDepth 100000
def eU (xs:List Nat):RS:=⟨fun w f=>U w (f 0) xs,fun h hs hk=>jd h hs hk⟩
def Kh (m n:Nat):RS:=⟨fun w f=>Un w (f 0) m∧Un w (f 1) n,fun ⟨h,g⟩ hs hk=>⟨jd h hs hk,jd g hs hk⟩⟩
theorem sQ {P:Program} {f:FuncId} {args:Array Value} {w:World} {α:Env} {γ:kR} {m n:Nat} (g:Nat) (h:Calls P f args w (fun e w'=>Dv w w' e m n)) :
  Calls P f args w (fun e w'=>∃ F,(∀ k,bG (F k)=true)∧e = .returned (den α (upd γ g F) (.t [.c g 0,.c g 1,vI 0]))∧(Kh m n).R w' F∧Pl.Ex w w'):=Calls.mono h fun e w' ⟨⟨u,v,he,hu,hv⟩,hE⟩=>by
 obtain ⟨A,c,ha⟩:=Un.jX hu
 obtain ⟨B,b,hb⟩:=Un.jX hv
 subst ha hb he
 refine ⟨wo [.slice A (limbs m).length c,.slice B (limbs n).length b],eG rfl,?_,⟨hu,hv⟩,hE⟩
 simp only [den,bZ,upd_same];rfl
def and1 (z:Int):Nat:=(BitVec.ofInt 64 z&&&BitVec.ofInt 64 1).toNat
theorem j5 (z:Int):and1 z≤1:=by unfold and1;rw [BitVec.toNat_and];exact Nat.and_le_right
theorem om (z:Int) (T:TypeId) (x y:Operand) (X:World):Pl.Bn Tryz.prog .and T x y (.int .i64 z) (.int .i64 1) X = .ok (.int .i64 ((and1 z:Nat):Int)) X:=by
 have h:=j5 z
 have e:IntKind.i64.wrap ((and1 z:Nat):Int)=((and1 z:Nat):Int):=Pl.oC (by omega) (by omega)
 show (do eqGuard .and T x y (.int .i64 z) (.int .i64 1);binOp .and T (.int .i64 z) (.int .i64 1):Sem Value).run Tryz.prog X=_
 have h2:(Op.intBits .and .i64 z 1).run Tryz.prog X = .ok (.int .i64 (IntKind.i64.wrap ((and1 z:Nat):Int))) X:=rfl
 rw [e] at h2
 exact h2
def and7 (z:Int):Nat:=(BitVec.ofInt 64 z&&&BitVec.ofInt 64 7).toNat
theorem iG (z:Int):and7 z≤7:=by unfold and7;rw [BitVec.toNat_and];exact Nat.and_le_right
theorem dV (z:Int) (T:TypeId) (x y:Operand) (X:World):Pl.Bn Tryz.prog .and T x y (.int .i64 z) (.int .i64 7) X = .ok (.int .i64 ((and7 z:Nat):Int)) X:=by
 have h:=iG z
 have e:IntKind.i64.wrap ((and7 z:Nat):Int)=((and7 z:Nat):Int):=Pl.oC (by omega) (by omega)
 show (do eqGuard .and T x y (.int .i64 z) (.int .i64 7);binOp .and T (.int .i64 z) (.int .i64 7):Sem Value).run Tryz.prog X=_
 have h2:(Op.intBits .and .i64 z 7).run Tryz.prog X = .ok (.int .i64 (IntKind.i64.wrap ((and7 z:Nat):Int))) X:=rfl
 rw [e] at h2
 exact h2
def iM (z:Int):Nat:=(BitVec.ofInt 64 z&&&BitVec.ofInt 64 8).toNat
theorem j6 (z:Int):iM z≤8:=by unfold iM;rw [BitVec.toNat_and];exact Nat.and_le_right
theorem oo (z:Int) (T:TypeId) (x y:Operand) (X:World):Pl.Bn Tryz.prog .and T x y (.int .i64 z) (.int .i64 8) X = .ok (.int .i64 ((iM z:Nat):Int)) X:=by
 have h:=j6 z
 have e:IntKind.i64.wrap ((iM z:Nat):Int)=((iM z:Nat):Int):=Pl.oC (by omega) (by omega)
 show (do eqGuard .and T x y (.int .i64 z) (.int .i64 8);binOp .and T (.int .i64 z) (.int .i64 8):Sem Value).run Tryz.prog X=_
 have h2:(Op.intBits .and .i64 z 8).run Tryz.prog X = .ok (.int .i64 (IntKind.i64.wrap ((iM z:Nat):Int))) X:=rfl
 rw [e] at h2
 exact h2
def aN (z:Int):Nat:=(BitVec.ofInt 64 z&&&BitVec.ofInt 64 65535).toNat
theorem bW (z:Int):aN z≤65535:=by unfold aN;rw [BitVec.toNat_and];exact Nat.and_le_right
theorem dJ (z:Int) (T:TypeId) (x y:Operand) (X:World):Pl.Bn Tryz.prog .and T x y (.int .i64 z) (.int .i64 65535) X = .ok (.int .i64 ((aN z:Nat):Int)) X:=by
 have h:=bW z
 have e:IntKind.i64.wrap ((aN z:Nat):Int)=((aN z:Nat):Int):=Pl.oC (by omega) (by omega)
 show (do eqGuard .and T x y (.int .i64 z) (.int .i64 65535);binOp .and T (.int .i64 z) (.int .i64 65535):Sem Value).run Tryz.prog X=_
 have h2:(Op.intBits .and .i64 z 65535).run Tryz.prog X = .ok (.int .i64 (IntKind.i64.wrap ((aN z:Nat):Int))) X:=rfl
 rw [e] at h2
 exact h2
theorem bD {P:Program} {T:TypeId} {x y:Operand} {a b:Nat} (h:a+b≤9223372036854775807) (X:World):Pl.Bn P .add T x y (.int .i64 ((a:Nat):Int)) (.int .i64 ((b:Nat):Int)) X = .ok (.int .i64 ((a+b:Nat):Int)) X:=Pl.Ep (Pl.a64 rfl rfl h) X
theorem bF {P:Program} {T:TypeId} {x y:Operand} {a b:Nat} (h0:b≠0) (_:a≤a) (X:World):Pl.Bn P .rem T x y (.int .i64 ((a:Nat):Int)) (.int .i64 ((b:Nat):Int)) X = .ok (.int .i64 ((a%b:Nat):Int)) X:=Pl.rY (by omega) (Int.ofNat_tmod a b).symm X
def dw (r:Int):Nat:=if and1 r=0∧iM r=8 then 10 else 2
def fu (p:Int):Nat:=1+aN p%10
def dY (l:Int):Int:=((aN l%31:Nat):Int)-20
def fD (l h:Int):Int:=dY l+((aN h%21:Nat):Int)
theorem jM (r p l h:Int):fT (dw r) (fu p) (dY l) (fD l h)∧fu p≤10 ∧ -20≤dY l∧fD l h≤30:=by
 unfold dw fu fD dY
 refine ⟨⟨by split<;>omega,by omega,by omega,by omega,by omega,by omega⟩,by omega,by omega,by omega⟩
def iC (lo hi e:Int):Int:=lo+Int.tmod ((aN e:Nat):Int) (hi-lo+1)
theorem gm {lo hi:Int} (h:lo≤hi) (e:Int):lo≤iC lo hi e∧iC lo hi e≤hi:=by
 unfold iC
 rw [Int.tmod_eq_emod_of_nonneg (by omega)]
 have h1:=Int.emod_nonneg ((aN e:Nat):Int) (show hi-lo+1≠0 by omega)
 have h2:=Int.emod_lt_of_pos ((aN e:Nat):Int) (show 0<hi-lo+1 by omega)
 omega
def dx (b p:Nat) (lo hi:Int) (k:Int) (n:Bool) (xs:List Nat) (e:Int):Fl :=
 if and7 k=0 then .zero n else if and7 k=2 then .inf n else if aS xs 4%b^p=0 then .zero n else
  if b^(p-1)≤aS xs 4%b^p then .fin n ((aS xs 4%b^p:Nat):Int) (iC lo hi e) else .fin n ((aS xs 4%b^p:Nat):Int) lo
theorem iL {b p:Nat} {lo hi:Int} (hf:fT b p lo hi) (k:Int) (n:Bool) (xs:List Nat) (e:Int):bO b p lo hi (dx b p lo hi k n xs e):=by
 have h1:=gm hf.l e
 have h2:=Nat.mod_lt (aS xs 4) (Nat.pow_pos (n:=p) (show 0<b by have:=hf.b2;omega))
 have h3:=hf.l
 unfold dx
 obtain ⟨m9,hm9⟩:∃ m,aS xs 4%b^p=m:=⟨_,rfl⟩
 rw [hm9] at h2 ⊢
 split
 · trivial
 · split
   · trivial
   · split
     · trivial
     · split
       · exact ⟨⟨h1.1,by omega,by omega,.inr (by omega)⟩,h1.2⟩
       · exact ⟨⟨Int.le_refl _,by omega,by omega,.inl rfl⟩,h3⟩
theorem iq (w:World) (r9 p9 l9 h9:Int) :
  Calls Tryz.prog 29 #[.agg #[.int .i64 r9,.int .i64 p9,.int .i64 l9,.int .i64 h9]] w fun e w'=>e = .returned (.agg #[.int .i64 ((dw r9:Nat):Int),.int .i64 ((fu p9:Nat):Int),.int .i64 (dY l9),.int .i64 (fD l9 h9)])∧Pl.Ex w w':=by
 have qp9:=bW p9
 have ql9:=bW l9
 have qh9:=bW h9
 have g1:=j5 r9
 have g8:=j6 r9
 refine Rf.aA (n:=35) [.a [vI r9,vI p9,vI l9,vI h9]] [] [] Tryz.func29 rfl (by kernel_rfl) rfl rfl trivial ?_
 refine Rf.bu aa 1 0 rfl ?_
 refine Rf.ah (v:=.int .i64 ((aN p9:Nat):Int)) (fun X=>dJ p9 _ _ _ X) rfl ?_
 refine Rf.ah (v:=.int .i64 ((((aN p9)%10):Nat):Int)) (bF (a:=(aN p9)) (b:=10) (by omega) (by omega)) rfl ?_
 refine Rf.ah (v:=.int .i64 (((1+((aN p9)%10)):Nat):Int)) (bD (a:=1) (b:=((aN p9)%10)) (by omega)) rfl ?_
 refine Rf.ay aa 2 rfl ?_
 refine Rf.ah (v:=.int .i64 ((aN l9:Nat):Int)) (fun X=>dJ l9 _ _ _ X) rfl ?_
 refine Rf.ah (v:=.int .i64 ((((aN l9)%31):Nat):Int)) (bF (a:=(aN l9)) (b:=31) (by omega) (by omega)) rfl ?_
 refine Rf.ah (v:=.int .i64 (((((aN l9)%31):Nat):Int)-20)) (fun X=>eH (by omega) X) rfl ?_
 refine Rf.gU (.a [vI 2,vI (((1+((aN p9)%10)):Nat):Int),vI (((((aN l9)%31):Nat):Int)-20),vI 0]) rfl rfl rfl (fun _ _=>rfl) (fun α γ X=>by kernel_rfl) ?_
 refine Rf.bY aa 0 2 rfl ?_
 refine Rf.ah (v:=.int .i64 ((and1 r9:Nat):Int)) (fun X=>om r9 _ _ _ X) rfl ?_
 refine Rf.jZ (p:=(((and1 r9):Nat):Int)=0) (l8 _ _) rfl (fun c1=>?_) (fun c1=>?_)
 · refine Rf.ay aa 3 rfl ?_
   refine Rf.ah (v:=.int .i64 ((iM r9:Nat):Int)) (fun X=>oo r9 _ _ _ X) rfl ?_
   refine Rf.jZ (p:=(((iM r9):Nat):Int)=8) (l8 _ _) rfl (fun c2=>?_) (fun c2=>?_)
   · refine Rf.bY aa 2 3 rfl ?_
     refine Rf.ah (v:=.int .i64 ((aN h9:Nat):Int)) (fun X=>dJ h9 _ _ _ X) rfl ?_
     refine Rf.ah (v:=.int .i64 ((((aN h9)%21):Nat):Int)) (bF (a:=(aN h9)) (b:=21) (by omega) (by omega)) rfl ?_
     refine Rf.ah (v:=.int .i64 ((((((aN l9)%31):Nat):Int)-20)+((((aN h9)%21):Nat):Int))) (fun X=>gB (by omega) X) rfl ?_
     refine Rf.HY aa 1 3 rfl ?_
     exact Rf.aI aa (fun _ _ h=>h) rfl rfl (fun α γ w h=>⟨by rw [show dw r9=10 by unfold dw;split<;>omega];rfl,h.ex⟩)
   · refine Rf.bY aa 2 3 rfl ?_
     refine Rf.ah (v:=.int .i64 ((aN h9:Nat):Int)) (fun X=>dJ h9 _ _ _ X) rfl ?_
     refine Rf.ah (v:=.int .i64 ((((aN h9)%21):Nat):Int)) (bF (a:=(aN h9)) (b:=21) (by omega) (by omega)) rfl ?_
     refine Rf.ah (v:=.int .i64 ((((((aN l9)%31):Nat):Int)-20)+((((aN h9)%21):Nat):Int))) (fun X=>gB (by omega) X) rfl ?_
     refine Rf.HY aa 1 3 rfl ?_
     exact Rf.aI aa (fun _ _ h=>h) rfl rfl (fun α γ w h=>⟨by rw [show dw r9=2 by unfold dw;split<;>omega];rfl,h.ex⟩)
 · refine Rf.bY aa 2 3 rfl ?_
   refine Rf.ah (v:=.int .i64 ((aN h9:Nat):Int)) (fun X=>dJ h9 _ _ _ X) rfl ?_
   refine Rf.ah (v:=.int .i64 ((((aN h9)%21):Nat):Int)) (bF (a:=(aN h9)) (b:=21) (by omega) (by omega)) rfl ?_
   refine Rf.ah (v:=.int .i64 ((((((aN l9)%31):Nat):Int)-20)+((((aN h9)%21):Nat):Int))) (fun X=>gB (by omega) X) rfl ?_
   refine Rf.HY aa 1 3 rfl ?_
   exact Rf.aI aa (fun _ _ h=>h) rfl rfl (fun α γ w h=>⟨by rw [show dw r9=2 by unfold dw;split<;>omega];rfl,h.ex⟩)
theorem sS (w:World) (b p:Nat) (lo hi:Int) (hf:fT b p lo hi) (Aa:Option Addr) (ca:Nat) (k9:Int) (n9:Bool) (xs:List Nat) (e9:Int) (ua:U w (.slice Aa xs.length ca) xs) (hk:and7 k9=0) :
  Calls Tryz.prog 48 #[.agg #[.int .i64 ((b:Nat):Int),.int .i64 ((p:Nat):Int),.int .i64 lo,.int .i64 hi],.agg #[.int .i64 k9,.bool n9,.slice Aa xs.length ca,.int .i64 e9]] w fun e w'=>∃ u,e = .returned u∧Fv w' u (dx b p lo hi k9 n9 xs e9)∧Pl.Ex w w':=by
 have f1:=hf.p1
 have f2:=hf.ku
 have f3:=hf.l
 have f4:=hf.l1
 have f5:=hf.h1
 have hb2:=hf.b2
 have q7:=iG k9
 have q16:=bW e9
 have hcut:Sn (aS xs 4) 4:=Sz.sn (Sz.cut ua false 4 4 (Nat.le_refl 4))
 have hpw:=Nat.pow_pos (n:=p) (show 0<b by omega)
 have hE:=gm f3 e9
 unfold iC at hE
 have hmd:=Nat.mod_lt (aS xs 4) hpw
 refine Rf.aA (n:=71) [.a [vI ((b:Nat):Int),vI ((p:Nat):Int),vI lo,vI hi],.a [vI k9,vB n9,.c 0 0,vI e9]] [[.slice Aa (List.length xs) ca]] [(0,(eU xs).S)] Tryz.func48 rfl (by kernel_rfl) rfl rfl ⟨RS.in ua,trivial⟩ ?_
 refine Rf.bu aa 1 0 rfl ?_
 refine Rf.ah (v:=.int .i64 0) (fun X=>(dV k9 _ _ _ X).trans (by rw [hk];rfl)) rfl ?_
 refine Rf.ah (v:=.bool true) (fun X=>aM (by decide) X) rfl ?_
 refine Rf.bY aa 1 3 rfl ?_
 refine Rf.ah (v:=.int .i64 0) (fun X=>(dV k9 _ _ _ X).trans (by rw [hk];rfl)) rfl ?_
 refine Rf.ay aa 3 rfl ?_
 refine Rf.gU (.a [vI 0,vB n9,vN,vI 0]) rfl rfl rfl (fun _ _=>rfl) (fun α γ X=>by kernel_rfl) ?_
 refine Rf.HY aa 0 3 rfl ?_
 exact Rf.aI aa (fun _ _ h=>h) rfl rfl (fun α γ w h=>⟨_,rfl,by rw [show dx b p lo hi k9 n9 xs e9 = .zero n9 from if_pos hk];exact Fv.mk (x:=.zero n9) (iA _),h.ex⟩)
theorem sU (w:World) (b p:Nat) (lo hi:Int) (hf:fT b p lo hi) (Aa:Option Addr) (ca:Nat) (k9:Int) (n9:Bool) (xs:List Nat) (e9:Int) (ua:U w (.slice Aa xs.length ca) xs) (hk:and7 k9=2) :
  Calls Tryz.prog 48 #[.agg #[.int .i64 ((b:Nat):Int),.int .i64 ((p:Nat):Int),.int .i64 lo,.int .i64 hi],.agg #[.int .i64 k9,.bool n9,.slice Aa xs.length ca,.int .i64 e9]] w fun e w'=>∃ u,e = .returned u∧Fv w' u (dx b p lo hi k9 n9 xs e9)∧Pl.Ex w w':=by
 have f1:=hf.p1
 have f2:=hf.ku
 have f3:=hf.l
 have f4:=hf.l1
 have f5:=hf.h1
 have hb2:=hf.b2
 have q7:=iG k9
 have q16:=bW e9
 have hcut:Sn (aS xs 4) 4:=Sz.sn (Sz.cut ua false 4 4 (Nat.le_refl 4))
 have hpw:=Nat.pow_pos (n:=p) (show 0<b by omega)
 have hE:=gm f3 e9
 unfold iC at hE
 have hmd:=Nat.mod_lt (aS xs 4) hpw
 refine Rf.aA (n:=71) [.a [vI ((b:Nat):Int),vI ((p:Nat):Int),vI lo,vI hi],.a [vI k9,vB n9,.c 0 0,vI e9]] [[.slice Aa (List.length xs) ca]] [(0,(eU xs).S)] Tryz.func48 rfl (by kernel_rfl) rfl rfl ⟨RS.in ua,trivial⟩ ?_
 refine Rf.bu aa 1 0 rfl ?_
 refine Rf.ah (v:=.int .i64 2) (fun X=>(dV k9 _ _ _ X).trans (by rw [hk];rfl)) rfl ?_
 refine Rf.ah (v:=.bool false) (fun X=>aK (by decide) X) rfl ?_
 refine Rf.ay aa 3 rfl ?_
 refine Rf.ah (v:=.int .i64 2) (fun X=>(dV k9 _ _ _ X).trans (by rw [hk];rfl)) rfl ?_
 refine Rf.ah (v:=.bool true) (fun X=>aM (by decide) X) rfl ?_
 refine Rf.bY aa 1 3 rfl ?_
 refine Rf.ah (v:=.int .i64 2) (fun X=>(dV k9 _ _ _ X).trans (by rw [hk];rfl)) rfl ?_
 refine Rf.ay aa 3 rfl ?_
 refine Rf.gU (.a [vI 2,vB n9,vN,vI 0]) rfl rfl rfl (fun _ _=>rfl) (fun α γ X=>by kernel_rfl) ?_
 refine Rf.HY aa 0 3 rfl ?_
 exact Rf.aI aa (fun _ _ h=>h) rfl rfl (fun α γ w h=>⟨_,rfl,by rw [show dx b p lo hi k9 n9 xs e9 = .inf n9 from (if_neg (by omega)).trans (if_pos hk)];exact Fv.mk (x:=.inf n9) (iA _),h.ex⟩)
theorem sV (w:World) (b p:Nat) (lo hi:Int) (hf:fT b p lo hi) (Aa:Option Addr) (ca:Nat) (k9:Int) (n9:Bool) (xs:List Nat) (e9:Int) (ua:U w (.slice Aa xs.length ca) xs) (hk:¬ and7 k9=0) (hk2:¬ and7 k9=2) (hm:(aS xs 4%b^p)=0) :
  Calls Tryz.prog 48 #[.agg #[.int .i64 ((b:Nat):Int),.int .i64 ((p:Nat):Int),.int .i64 lo,.int .i64 hi],.agg #[.int .i64 k9,.bool n9,.slice Aa xs.length ca,.int .i64 e9]] w fun e w'=>∃ u,e = .returned u∧Fv w' u (dx b p lo hi k9 n9 xs e9)∧Pl.Ex w w':=by
 have f1:=hf.p1
 have f2:=hf.ku
 have f3:=hf.l
 have f4:=hf.l1
 have f5:=hf.h1
 have hb2:=hf.b2
 have q7:=iG k9
 have q16:=bW e9
 have hcut:Sn (aS xs 4) 4:=Sz.sn (Sz.cut ua false 4 4 (Nat.le_refl 4))
 have hpw:=Nat.pow_pos (n:=p) (show 0<b by omega)
 have hE:=gm f3 e9
 unfold iC at hE
 have hmd:=Nat.mod_lt (aS xs 4) hpw
 refine Rf.aA (n:=71) [.a [vI ((b:Nat):Int),vI ((p:Nat):Int),vI lo,vI hi],.a [vI k9,vB n9,.c 0 0,vI e9]] [[.slice Aa (List.length xs) ca]] [(0,(eU xs).S)] Tryz.func48 rfl (by kernel_rfl) rfl rfl ⟨RS.in ua,trivial⟩ ?_
 refine Rf.bu aa 1 0 rfl ?_
 refine Rf.ah (v:=.int .i64 ((and7 k9:Nat):Int)) (fun X=>dV k9 _ _ _ X) rfl ?_
 refine Rf.ah (v:=.bool false) (fun X=>aK (by omega) X) rfl ?_
 refine Rf.ay aa 3 rfl ?_
 refine Rf.ah (v:=.int .i64 ((and7 k9:Nat):Int)) (fun X=>dV k9 _ _ _ X) rfl ?_
 refine Rf.ah (v:=.bool false) (fun X=>aK (by omega) X) rfl ?_
 refine Rf.HY aa 2 3 rfl ?_
 refine Rf.aQ none fo ?_
 refine Rf.aD aa 15 3 rfl ?_
 refine Rf.ak 1 _ _ rfl (Pl.en Tryz.func65) (fun α γ w h=>dO 1 (iJ _ _ xs 4 (h.r 0 rfl) (by decide) (by decide) (aS xs 4) rfl)) ?_
 refine Rf.aD aa 15 3 rfl ?_
 refine Rf.ak 2 _ _ rfl (Pl.en Tryz.func36) (fun α γ w h=>dO 2 (bg _ b p p lo hi ((p:Nat):Int) hf.r (by omega) (by omega))) ?_
 refine Rf.ak 3 _ _ rfl (Pl.en Tryz.func91) (fun α γ w h=>sQ 3 (sI _ _ _ (aS xs 4) (b^p) _ _ (h.r 1 rfl) (h.r 2 rfl) (Sn.le hcut (by decide)) (Sn.le (bK hf.r (by omega):Sn (b^p) 38) (by decide)) (by omega) rfl rfl)) ?_
 refine Rf.aD aa 15 3 rfl ?_
 refine Rf.aW (by kernel_rfl) ?_
 refine Rf.aP [2,3,4,6] [0,1,2] [0,3] rfl ?_
 refine Rf.bu aa 0 3 rfl ?_
 refine Rf.dD ((limbs ((aS xs 4)%(b^p))).length) Tryz.underlying24 rfl rfl rfl rfl rfl rfl (fun w f h=>(Un.jX h.2)) ?_
 refine Rf.ah (v:=.bool true) (fun X=>aM (by rw [Int.ofNat_eq_zero,jQ];exact hm) X) rfl ?_
 refine Rf.bY aa 1 3 rfl ?_
 refine Rf.gU (.a [vI 0,vB n9,vN,vI 0]) rfl rfl rfl (fun _ _=>rfl) (fun α γ X=>by kernel_rfl) ?_
 refine Rf.HY aa 0 3 rfl ?_
 exact Rf.aI aa (fun _ _ h=>h) rfl rfl (fun α γ w h=>⟨_,rfl,by rw [show dx b p lo hi k9 n9 xs e9 = .zero n9 from (if_neg hk).trans ((if_neg hk2).trans (if_pos hm))];exact Fv.mk (x:=.zero n9) (iA _),h.ex⟩)
theorem sW (w:World) (b p:Nat) (lo hi:Int) (hf:fT b p lo hi) (Aa:Option Addr) (ca:Nat) (k9:Int) (n9:Bool) (xs:List Nat) (e9:Int) (ua:U w (.slice Aa xs.length ca) xs) (hk:¬ and7 k9=0) (hk2:¬ and7 k9=2) (hm:¬ (aS xs 4%b^p)=0) (hl:b^(p-1)≤(aS xs 4%b^p)) :
  Calls Tryz.prog 48 #[.agg #[.int .i64 ((b:Nat):Int),.int .i64 ((p:Nat):Int),.int .i64 lo,.int .i64 hi],.agg #[.int .i64 k9,.bool n9,.slice Aa xs.length ca,.int .i64 e9]] w fun e w'=>∃ u,e = .returned u∧Fv w' u (dx b p lo hi k9 n9 xs e9)∧Pl.Ex w w':=by
 have f1:=hf.p1
 have f2:=hf.ku
 have f3:=hf.l
 have f4:=hf.l1
 have f5:=hf.h1
 have hb2:=hf.b2
 have q7:=iG k9
 have q16:=bW e9
 have hcut:Sn (aS xs 4) 4:=Sz.sn (Sz.cut ua false 4 4 (Nat.le_refl 4))
 have hpw:=Nat.pow_pos (n:=p) (show 0<b by omega)
 have hE:=gm f3 e9
 unfold iC at hE
 have hmd:=Nat.mod_lt (aS xs 4) hpw
 refine Rf.aA (n:=71) [.a [vI ((b:Nat):Int),vI ((p:Nat):Int),vI lo,vI hi],.a [vI k9,vB n9,.c 0 0,vI e9]] [[.slice Aa (List.length xs) ca]] [(0,(eU xs).S)] Tryz.func48 rfl (by kernel_rfl) rfl rfl ⟨RS.in ua,trivial⟩ ?_
 refine Rf.bu aa 1 0 rfl ?_
 refine Rf.ah (v:=.int .i64 ((and7 k9:Nat):Int)) (fun X=>dV k9 _ _ _ X) rfl ?_
 refine Rf.ah (v:=.bool false) (fun X=>aK (by omega) X) rfl ?_
 refine Rf.ay aa 3 rfl ?_
 refine Rf.ah (v:=.int .i64 ((and7 k9:Nat):Int)) (fun X=>dV k9 _ _ _ X) rfl ?_
 refine Rf.ah (v:=.bool false) (fun X=>aK (by omega) X) rfl ?_
 refine Rf.HY aa 2 3 rfl ?_
 refine Rf.aQ none fo ?_
 refine Rf.aD aa 15 3 rfl ?_
 refine Rf.ak 1 _ _ rfl (Pl.en Tryz.func65) (fun α γ w h=>dO 1 (iJ _ _ xs 4 (h.r 0 rfl) (by decide) (by decide) (aS xs 4) rfl)) ?_
 refine Rf.aD aa 15 3 rfl ?_
 refine Rf.ak 2 _ _ rfl (Pl.en Tryz.func36) (fun α γ w h=>dO 2 (bg _ b p p lo hi ((p:Nat):Int) hf.r (by omega) (by omega))) ?_
 refine Rf.ak 3 _ _ rfl (Pl.en Tryz.func91) (fun α γ w h=>sQ 3 (sI _ _ _ (aS xs 4) (b^p) _ _ (h.r 1 rfl) (h.r 2 rfl) (Sn.le hcut (by decide)) (Sn.le (bK hf.r (by omega):Sn (b^p) 38) (by decide)) (by omega) rfl rfl)) ?_
 refine Rf.aD aa 15 3 rfl ?_
 refine Rf.aW (by kernel_rfl) ?_
 refine Rf.aP [2,3,4,6] [0,1,2] [0,3] rfl ?_
 refine Rf.bu aa 0 3 rfl ?_
 refine Rf.dD ((limbs ((aS xs 4)%(b^p))).length) Tryz.underlying24 rfl rfl rfl rfl rfl rfl (fun w f h=>(Un.jX h.2)) ?_
 refine Rf.ah (v:=.bool false) (fun X=>aK (fun h=>hm (by rw [Int.ofNat_eq_zero,jQ] at h;exact h)) X) rfl ?_
 refine Rf.bY aa 3 3 rfl ?_
 refine Rf.ah (v:=.int .i64 (((p:Nat):Int)-1)) (fun X=>eH (by omega) X) rfl ?_
 refine Rf.aC 4 _ _ rfl (Pl.en Tryz.func36) (fun α γ w h=>dO 4 (bg _ b p (p-1) lo hi (((p:Nat):Int)-1) hf.r (by omega) (by omega))) ?_
 refine Rf.aC 5 _ _ rfl (Pl.en Tryz.func47) (fun α γ w h=>aU 5 (jk _ _ _ ((aS xs 4)%(b^p)) (b^(p-1)) (h.r 3 rfl).2 (h.r 4 rfl) (Nat.le_trans (Sn.down (bK hf.r (by omega):Sn (b^p) 38) (by omega)) (by decide)) (Nat.le_trans (bK hf.r (by omega):Sn (b^(p-1)) 38) (by decide)) _ rfl)) ?_
 refine Rf.ah (v:=.bool true) (fun X=>bS (gW.2 (by omega)) X) rfl ?_
 refine Rf.HY aa 1 0 rfl ?_
 refine Rf.aQ none fo ?_
 refine Rf.aD aa 14 3 rfl ?_
 refine Rf.dL (vI ((aN e9:Nat):Int)) rfl (fun α γ w h=>(fun X=>dJ e9 _ _ _ X) w) ?_
 refine Rf.aD aa 14 3 rfl ?_
 refine Rf.dL (vI (hi-lo)) rfl (fun α γ w h=>(fun X=>eH (by omega) X) w) ?_
 refine Rf.dL (vI ((hi-lo)+1)) rfl (fun α γ w h=>(fun X=>gB (by omega) X) w) ?_
 refine Rf.Be (vI (Int.tmod ((aN e9:Nat):Int) (hi-lo+1))) rfl rfl rfl rfl rfl rfl rfl rfl rfl rfl (fun α γ w h=>(fun X=>Pl.rY (by omega) rfl X) w) ?_
 refine Rf.Be (vI (lo+(Int.tmod ((aN e9:Nat):Int) (hi-lo+1)))) rfl rfl rfl rfl rfl rfl rfl rfl rfl rfl (fun α γ w h=>(fun X=>gB (by omega) X) w) ?_
 refine Rf.aD aa 14 3 rfl ?_
 refine Rf.aW (by kernel_rfl) ?_
 refine Rf.aP [3,4,6,8] [1,2] [0,3] rfl ?_
 refine Rf.bu aa 0 3 rfl ?_
 refine Rf.nQ (.a [vI 1,vB n9,.c 3 1,vI (lo+(Int.tmod ((aN e9:Nat):Int) (hi-lo+1)))]) rfl rfl rfl (fun _ _=>rfl) (fun α γ hp X=>Rf.NJ rfl rfl (Rf.P8 1 (lo+(Int.tmod ((aN e9:Nat):Int) (hi-lo+1))) n9 (γ 3 1) (hp 3 1)) X) ?_
 refine Rf.HY aa 0 3 rfl ?_
 exact Rf.aI aa (fun _ _ h=>h) rfl rfl (fun α γ w h=>⟨_,rfl,by rw [show dx b p lo hi k9 n9 xs e9 = .fin n9 (((aS xs 4%b^p):Nat):Int) (iC lo hi e9) from (if_neg hk).trans ((if_neg hk2).trans ((if_neg hm).trans (if_pos hl)))];exact Fv.mk (x:=.fin n9 (((aS xs 4%b^p):Nat):Int) (iC lo hi e9)) (h.r 3 rfl).2,h.ex⟩)
theorem sZ (w:World) (b p:Nat) (lo hi:Int) (hf:fT b p lo hi) (Aa:Option Addr) (ca:Nat) (k9:Int) (n9:Bool) (xs:List Nat) (e9:Int) (ua:U w (.slice Aa xs.length ca) xs) (hk:¬ and7 k9=0) (hk2:¬ and7 k9=2) (hm:¬ (aS xs 4%b^p)=0) (hl:¬ b^(p-1)≤(aS xs 4%b^p)) :
  Calls Tryz.prog 48 #[.agg #[.int .i64 ((b:Nat):Int),.int .i64 ((p:Nat):Int),.int .i64 lo,.int .i64 hi],.agg #[.int .i64 k9,.bool n9,.slice Aa xs.length ca,.int .i64 e9]] w fun e w'=>∃ u,e = .returned u∧Fv w' u (dx b p lo hi k9 n9 xs e9)∧Pl.Ex w w':=by
 have f1:=hf.p1
 have f2:=hf.ku
 have f3:=hf.l
 have f4:=hf.l1
 have f5:=hf.h1
 have hb2:=hf.b2
 have q7:=iG k9
 have q16:=bW e9
 have hcut:Sn (aS xs 4) 4:=Sz.sn (Sz.cut ua false 4 4 (Nat.le_refl 4))
 have hpw:=Nat.pow_pos (n:=p) (show 0<b by omega)
 have hE:=gm f3 e9
 unfold iC at hE
 have hmd:=Nat.mod_lt (aS xs 4) hpw
 refine Rf.aA (n:=71) [.a [vI ((b:Nat):Int),vI ((p:Nat):Int),vI lo,vI hi],.a [vI k9,vB n9,.c 0 0,vI e9]] [[.slice Aa (List.length xs) ca]] [(0,(eU xs).S)] Tryz.func48 rfl (by kernel_rfl) rfl rfl ⟨RS.in ua,trivial⟩ ?_
 refine Rf.bu aa 1 0 rfl ?_
 refine Rf.ah (v:=.int .i64 ((and7 k9:Nat):Int)) (fun X=>dV k9 _ _ _ X) rfl ?_
 refine Rf.ah (v:=.bool false) (fun X=>aK (by omega) X) rfl ?_
 refine Rf.ay aa 3 rfl ?_
 refine Rf.ah (v:=.int .i64 ((and7 k9:Nat):Int)) (fun X=>dV k9 _ _ _ X) rfl ?_
 refine Rf.ah (v:=.bool false) (fun X=>aK (by omega) X) rfl ?_
 refine Rf.HY aa 2 3 rfl ?_
 refine Rf.aQ none fo ?_
 refine Rf.aD aa 15 3 rfl ?_
 refine Rf.ak 1 _ _ rfl (Pl.en Tryz.func65) (fun α γ w h=>dO 1 (iJ _ _ xs 4 (h.r 0 rfl) (by decide) (by decide) (aS xs 4) rfl)) ?_
 refine Rf.aD aa 15 3 rfl ?_
 refine Rf.ak 2 _ _ rfl (Pl.en Tryz.func36) (fun α γ w h=>dO 2 (bg _ b p p lo hi ((p:Nat):Int) hf.r (by omega) (by omega))) ?_
 refine Rf.ak 3 _ _ rfl (Pl.en Tryz.func91) (fun α γ w h=>sQ 3 (sI _ _ _ (aS xs 4) (b^p) _ _ (h.r 1 rfl) (h.r 2 rfl) (Sn.le hcut (by decide)) (Sn.le (bK hf.r (by omega):Sn (b^p) 38) (by decide)) (by omega) rfl rfl)) ?_
 refine Rf.aD aa 15 3 rfl ?_
 refine Rf.aW (by kernel_rfl) ?_
 refine Rf.aP [2,3,4,6] [0,1,2] [0,3] rfl ?_
 refine Rf.bu aa 0 3 rfl ?_
 refine Rf.dD ((limbs ((aS xs 4)%(b^p))).length) Tryz.underlying24 rfl rfl rfl rfl rfl rfl (fun w f h=>(Un.jX h.2)) ?_
 refine Rf.ah (v:=.bool false) (fun X=>aK (fun h=>hm (by rw [Int.ofNat_eq_zero,jQ] at h;exact h)) X) rfl ?_
 refine Rf.bY aa 3 3 rfl ?_
 refine Rf.ah (v:=.int .i64 (((p:Nat):Int)-1)) (fun X=>eH (by omega) X) rfl ?_
 refine Rf.aC 4 _ _ rfl (Pl.en Tryz.func36) (fun α γ w h=>dO 4 (bg _ b p (p-1) lo hi (((p:Nat):Int)-1) hf.r (by omega) (by omega))) ?_
 refine Rf.aC 5 _ _ rfl (Pl.en Tryz.func47) (fun α γ w h=>aU 5 (jk _ _ _ ((aS xs 4)%(b^p)) (b^(p-1)) (h.r 3 rfl).2 (h.r 4 rfl) (Nat.le_trans (Sn.down (bK hf.r (by omega):Sn (b^p) 38) (by omega)) (by decide)) (Nat.le_trans (bK hf.r (by omega):Sn (b^(p-1)) 38) (by decide)) _ rfl)) ?_
 refine Rf.ah (v:=.bool false) (fun X=>gJ (fun h=>hl (by have h9:=gW.1 h;omega)) X) rfl ?_
 refine Rf.bY aa 2 3 rfl ?_
 refine Rf.nQ (.a [vI 1,vB n9,.c 3 1,vI lo]) rfl rfl rfl (fun _ _=>rfl) (fun α γ hp X=>Rf.NJ rfl rfl (Rf.P8 1 lo n9 (γ 3 1) (hp 3 1)) X) ?_
 refine Rf.HY aa 0 3 rfl ?_
 exact Rf.aI aa (fun _ _ h=>h) rfl rfl (fun α γ w h=>⟨_,rfl,by rw [show dx b p lo hi k9 n9 xs e9 = .fin n9 (((aS xs 4%b^p):Nat):Int) lo from (if_neg hk).trans ((if_neg hk2).trans ((if_neg hm).trans (if_neg hl)))];exact Fv.mk (x:=.fin n9 (((aS xs 4%b^p):Nat):Int) lo) (h.r 3 rfl).2,h.ex⟩)
theorem mh (w:World) (b p:Nat) (lo hi:Int) (hf:fT b p lo hi) (Aa:Option Addr) (ca:Nat) (k9:Int) (n9:Bool) (xs:List Nat) (e9:Int) (ua:U w (.slice Aa xs.length ca) xs) :
  Calls Tryz.prog 48 #[.agg #[.int .i64 ((b:Nat):Int),.int .i64 ((p:Nat):Int),.int .i64 lo,.int .i64 hi],.agg #[.int .i64 k9,.bool n9,.slice Aa xs.length ca,.int .i64 e9]] w fun e w'=>∃ u,e = .returned u∧Fv w' u (dx b p lo hi k9 n9 xs e9)∧Pl.Ex w w':=by
 by_cases hk:and7 k9=0
 · exact sS w b p lo hi hf Aa ca k9 n9 xs e9 ua hk
 · by_cases hk2:and7 k9=2
   · exact sU w b p lo hi hf Aa ca k9 n9 xs e9 ua hk2
   · by_cases hm:aS xs 4%b^p=0
     · exact sV w b p lo hi hf Aa ca k9 n9 xs e9 ua hk hk2 hm
     · by_cases hl:b^(p-1)≤aS xs 4%b^p
       · exact sW w b p lo hi hf Aa ca k9 n9 xs e9 ua hk hk2 hm hl
       · exact sZ w b p lo hi hf Aa ca k9 n9 xs e9 ua hk hk2 hm hl
end Go.Proofs.YtgcieamfidoaoaaGreatDoor
namespace Go.Proofs.YtgcieamfidoaoaaGreatDoor
open Go.RowKit Rf Fm
set_option maxRecDepth 100000
theorem Qn.re {w:World} {v:Value} {q:Rat} {L M K N:Nat} (h:Qn w v q L M) (h1:Sz q.num K) (h2:Sn q.den N):Qn w v q K N:=by
 obtain ⟨A,c,B,b,e,u,t,z,y⟩:=h
 exact ⟨A,c,B,b,e,u,t,h1,h2⟩
theorem Cn {n:Int} {d K N:Nat} (hd:d≠0) (h1:Sz n K) (h2:Sn d N):Sz (Rat.divInt n ((d:Nat):Int)).num K∧Sn (Rat.divInt n ((d:Nat):Int)).den N:=by
 have hmk:=mk_pos (n:=n) (d:=(d:Int)) (g:=Nat.gcd n.natAbs d) (by omega) (by rw [Int.natAbs_natCast]) (by omega)
 rw [hmk.1,hmk.2,Int.natAbs_natCast]
 exact ⟨Sz.div h1,Sn.Ic (Sz.div (Sn.sz h2))⟩
theorem lK {b p:Nat} {lo hi:Int} (hf:fT b p lo hi) {x:Fl} (hx:bO b p lo hi x) {J:Nat} (h1 : -lo<8*(J:Int)) (h2:hi<8*(J:Int)) (hJ:J≤38) (hJ0:1≤J):Sz (vf b x).num (3+J)∧Sn (vf b x).den J:=by
 have h10:Sn 1 1:=Sn.of (by decide)
 cases x with
 | zero n=>exact ⟨(Sz.le Sz.zero (Nat.zero_le _):Sz (0:Rat).num (3+J)),Sn.le h10 hJ0⟩
 | inf n=>exact ⟨(Sz.le Sz.zero (Nat.zero_le _):Sz (0:Rat).num (3+J)),Sn.le h10 hJ0⟩
 | fin n m e =>
  have hs:=qb hf hx
  have hm0:=hx.1.2.1
  have he1:=hx.1.1
  have he2:=hx.2
  have hz:Sz (sg n m.natAbs) 3:=nM hs
  by_cases h:0≤e
  · obtain ⟨k,rfl⟩:∃ k:Nat,e=(k:Int):=⟨e.toNat,by omega⟩
    rw [Qx (Int.le_of_lt hm0)]
    refine ⟨?_,Sn.le h10 hJ0⟩
    show Sz (sg n m.natAbs*((b^k:Nat):Int)) (3+J)
    exact Sz.mul hz (Sn.sz (bK hf.r (by omega):Sn (b^k) J)) (by omega)
  · obtain ⟨k,rfl⟩:∃ k:Nat,e = -(k:Int):=⟨(-e).toNat,by omega⟩
    rw [Bi hf.b2 (Int.le_of_lt hm0)]
    have h3:=Cn (n:=sg n m.natAbs) (d:=b^k) (K:=3) (N:=J) (Nat.pos_iff_ne_zero.1 (Nat.pow_pos (by have:=hf.b2;omega))) hz (bK hf.r (by omega))
    exact ⟨Sz.le h3.1 (by omega),h3.2⟩
def fB (b:Bool) (xs ys:List Nat):Rat:=Rat.divInt (sg b (aS xs 4)) (if aS ys 4=0 then 1 else ((aS ys 4:Nat):Int))
theorem gN (w:World) (va:Value) (n9:Bool) (xs:List Nat) (ua:U w va xs) :
  Calls Tryz.prog 67 #[.agg #[.bool n9,va],.int .i64 4] w fun e w'=>∃ u,e = .returned u∧Zn w' u (sg n9 (aS xs 4))∧Pl.Ex w w':=by
 obtain ⟨Aa,ca,rfl,-⟩:=U.shape ua
 have iR:Sn (aS xs 4) 4:=Sz.sn (Sz.cut ua false 4 4 (Nat.le_refl 4))
 have hcut:=iR
 refine Rf.aA (n:=12) [.a [vB n9,.c 0 0],vI 4] [[.slice Aa (List.length xs) ca]] [(0,(eU xs).S)] Tryz.func67 rfl (by kernel_rfl) rfl rfl ⟨RS.in ua,trivial⟩ ?_
 refine Rf.HX aa 1 0 rfl ?_
 refine Rf.aQ none fo ?_
 refine Rf.aD aa 8 2 rfl ?_
 refine Rf.ak 1 _ _ rfl (Pl.en Tryz.func65) (fun α γ w h=>dO 1 (iJ _ _ xs 4 (h.r 0 rfl) (by decide) (by decide) (aS xs 4) rfl)) ?_
 refine Rf.ak 2 _ _ rfl (Pl.en Tryz.func55) (fun α γ w h=>gz 2 (kG _ n9 _ (limbs (aS xs 4)) (h.r 1 rfl) (Nat.le_trans hcut (by decide)) _ (aJ _) (sg n9 (aS xs 4)) rfl)) ?_
 refine Rf.aD aa 8 2 rfl ?_
 refine Rf.aW (by kernel_rfl) ?_
 refine Rf.aP [4] [1] [2] rfl ?_
 repeat refine Rf.aO ?_
 exact Rf.aI aa (fun _ _ h=>h) rfl rfl (fun α γ w h=>⟨_,rfl,(h.r 2 rfl),h.ex⟩)
theorem pq (w:World) (va vb:Value) (n9:Bool) (xs ys:List Nat) (ua:U w va xs) (ub:U w vb ys) (h0:aS ys 4=0) :
  Calls Tryz.prog 28 #[.agg #[.bool n9,va,vb],.int .i64 4] w fun e w'=>∃ u,e = .returned u∧Qn w' u (fB n9 xs ys) 4 4∧Pl.Ex w w':=by
 obtain ⟨Aa,ca,rfl,-⟩:=U.shape ua
 have iR:Sn (aS xs 4) 4:=Sz.sn (Sz.cut ua false 4 4 (Nat.le_refl 4))
 obtain ⟨Ab,cb,rfl,-⟩:=U.shape ub
 have kY:Sn (aS ys 4) 4:=Sz.sn (Sz.cut ub false 4 4 (Nat.le_refl 4))
 have hcut:=kY
 refine Rf.aA (n:=21) [.a [vB n9,.c 0 0,.c 1 0],vI 4] [[.slice Aa (List.length xs) ca],[.slice Ab (List.length ys) cb]] [(0,(eU xs).S),(1,(eU ys).S)] Tryz.func28 rfl (by kernel_rfl) rfl rfl ⟨RS.in ua,RS.in ub,trivial⟩ ?_
 refine Rf.bu aa 1 0 rfl ?_
 refine Rf.aC 2 _ _ rfl (Pl.en Tryz.func65) (fun α γ w h=>dO 2 (iJ _ _ ys 4 (h.r 1 rfl) (by decide) (by decide) (aS ys 4) rfl)) ?_
 refine Rf.bY aa 0 2 rfl ?_
 refine Rf.dD ((limbs (aS ys 4)).length) Tryz.underlying24 rfl rfl rfl rfl rfl rfl (fun w f h=>Un.jX h) ?_
 refine Rf.ah (v:=.bool true) (fun X=>aM (by rw [Int.ofNat_eq_zero,jQ];exact h0) X) rfl ?_
 refine Rf.bY aa 1 0 rfl ?_
 refine Rf.mH (e := 57) (m:=1) [.int .u32 1] 3 (dW 1) rfl rfl rfl (fun _ _=>rfl) (fun α γ X=>by kernel_rfl) rfl (fun N w k=>Un.one (x:=1) k rfl (by omega)) ?_
 refine Rf.bY aa 0 2 rfl ?_
 refine Rf.aC 4 _ _ rfl (Pl.en Tryz.func67) (fun α γ w h=>gz 4 (gN _ _ n9 xs (h.r 0 rfl))) ?_
 refine Rf.ay aa 2 rfl ?_
 refine Rf.aC 5 _ _ rfl (Pl.en Tryz.func68) (fun α γ w h=>gz 5 (fA _ _ 1 (h.r 3 rfl))) ?_
 refine Rf.aC 6 _ _ rfl (Pl.en Tryz.func66) (fun α γ w h=>iP 6 (iK _ _ _ (sg n9 (aS xs 4)) ((1:Nat):Int) _ (h.r 4 rfl) (h.r 5 rfl) 4 1 (nM iR) (Sn.sz (Sn.of (K:=1) (by decide))) (by decide) (by decide) (by omega) rfl)) ?_
 refine Rf.HY aa 0 2 rfl ?_
 exact Rf.aI aa (fun _ _ h=>h) rfl rfl (fun α γ w h=>⟨_,rfl,by unfold fB;rw [if_pos h0];exact Qn.le (h.r 6 rfl) (by decide) (by decide),h.ex⟩)
theorem pz (w:World) (va vb:Value) (n9:Bool) (xs ys:List Nat) (ua:U w va xs) (ub:U w vb ys) (h0:¬ aS ys 4=0) :
  Calls Tryz.prog 28 #[.agg #[.bool n9,va,vb],.int .i64 4] w fun e w'=>∃ u,e = .returned u∧Qn w' u (fB n9 xs ys) 4 4∧Pl.Ex w w':=by
 obtain ⟨Aa,ca,rfl,-⟩:=U.shape ua
 have iR:Sn (aS xs 4) 4:=Sz.sn (Sz.cut ua false 4 4 (Nat.le_refl 4))
 obtain ⟨Ab,cb,rfl,-⟩:=U.shape ub
 have kY:Sn (aS ys 4) 4:=Sz.sn (Sz.cut ub false 4 4 (Nat.le_refl 4))
 have hcut:=kY
 refine Rf.aA (n:=21) [.a [vB n9,.c 0 0,.c 1 0],vI 4] [[.slice Aa (List.length xs) ca],[.slice Ab (List.length ys) cb]] [(0,(eU xs).S),(1,(eU ys).S)] Tryz.func28 rfl (by kernel_rfl) rfl rfl ⟨RS.in ua,RS.in ub,trivial⟩ ?_
 refine Rf.bu aa 1 0 rfl ?_
 refine Rf.aC 2 _ _ rfl (Pl.en Tryz.func65) (fun α γ w h=>dO 2 (iJ _ _ ys 4 (h.r 1 rfl) (by decide) (by decide) (aS ys 4) rfl)) ?_
 refine Rf.bY aa 0 2 rfl ?_
 refine Rf.dD ((limbs (aS ys 4)).length) Tryz.underlying24 rfl rfl rfl rfl rfl rfl (fun w f h=>Un.jX h) ?_
 refine Rf.ah (v:=.bool false) (fun X=>aK (fun h=>h0 (by rw [Int.ofNat_eq_zero,jQ] at h;exact h)) X) rfl ?_
 refine Rf.bY aa 2 2 rfl ?_
 refine Rf.aC 3 _ _ rfl (Pl.en Tryz.func67) (fun α γ w h=>gz 3 (gN _ _ n9 xs (h.r 0 rfl))) ?_
 refine Rf.ay aa 2 rfl ?_
 refine Rf.aC 4 _ _ rfl (Pl.en Tryz.func68) (fun α γ w h=>gz 4 (fA _ _ (aS ys 4) (h.r 2 rfl))) ?_
 refine Rf.aC 5 _ _ rfl (Pl.en Tryz.func66) (fun α γ w h=>iP 5 (iK _ _ _ (sg n9 (aS xs 4)) (((aS ys 4):Nat):Int) _ (h.r 3 rfl) (h.r 4 rfl) 4 4 (nM iR) (Sn.sz hcut) (by decide) (by decide) (by omega) rfl)) ?_
 refine Rf.HY aa 0 2 rfl ?_
 exact Rf.aI aa (fun _ _ h=>h) rfl rfl (fun α γ w h=>⟨_,rfl,by unfold fB;rw [if_neg h0];exact Qn.le (h.r 5 rfl) (by decide) (by decide),h.ex⟩)
theorem gP (w:World) (va vb:Value) (n9:Bool) (xs ys:List Nat) (ua:U w va xs) (ub:U w vb ys) :
  Calls Tryz.prog 28 #[.agg #[.bool n9,va,vb],.int .i64 4] w fun e w'=>∃ u,e = .returned u∧Qn w' u (fB n9 xs ys) 4 4∧Pl.Ex w w':=by
 by_cases h:aS ys 4=0
 · exact pq w va vb n9 xs ys ua ub h
 · exact pz w va vb n9 xs ys ua ub h
theorem kE (w:World) (va:Value) (b p:Nat) (lo hi:Int) (hf:fT b p lo hi) (k9:Int) (n9:Bool) (xs:List Nat) (e9:Int) (ua:U w va xs) :
  Calls Tryz.prog 48 #[.agg #[.int .i64 ((b:Nat):Int),.int .i64 ((p:Nat):Int),.int .i64 lo,.int .i64 hi],.agg #[.int .i64 k9,.bool n9,va,.int .i64 e9]] w fun e w'=>∃ u,e = .returned u∧Fv w' u (dx b p lo hi k9 n9 xs e9)∧Pl.Ex w w':=by
 obtain ⟨A,c,rfl,-⟩:=U.shape ua
 exact mh w b p lo hi hf A c k9 n9 xs e9 ua
end Go.Proofs.YtgcieamfidoaoaaGreatDoor
namespace Go.Proofs.YtgcieamfidoaoaaGreatDoor
open Go.RowKit Rf Fm
set_option maxRecDepth 100000
theorem xO {P:Program} {f:FuncId} {args:Array Value} {w:World} {α:Env} {γ:kR} {x y:Fl} {a b c d:Value} (g:Nat) (h:Calls P f args w (fun e w'=>∃ u v,e = .returned (.tuple #[.agg #[a,b,c,d],u,v])∧Fv w' u x∧Fv w' v y∧Pl.Ex w w')) :
  Calls P f args w (fun e w'=>∃ F,(∀ k,bG (F k)=true)∧e = .returned (den α (upd γ g F) (.t [.a [.v a,.v b,.v c,.v d],.a [vI (kd x),vB (ng x),.c g 0,vI (xp x)],.a [vI (kd y),vB (ng y),.c g 1,vI (xp y)]]))∧(Kh (mn x) (mn y)).R w' F∧Pl.Ex w w'):=Calls.mono h fun e w' ⟨u,v,he,⟨A,c,hu,ua⟩,⟨B,b,hv,vb⟩,hE⟩=>by
 subst hu hv he
 refine ⟨wo [.slice A (limbs (mn x)).length c,.slice B (limbs (mn y)).length b],eG rfl,?_,⟨ua,vb⟩,hE⟩
 simp only [den,bZ,upd_same];rfl
theorem jg (w:World) (r9 p9 l9 h9:Int) (b p:Nat) (lo hi:Int) (hb:dw r9=b) (hp:fu p9=p) (hlo:dY l9=lo) (hhi:fD l9 h9=hi) (hf:fT b p lo hi) (v1 v2:Value) (k1 k2:Int) (n1 n2:Bool) (jo jN:List Nat) (e1 e2:Int) (u1:U w v1 jo) (u2:U w v2 jN) (x9 y9:Fl) (uK:dx b p lo hi k1 n1 jo e1=x9) (ve:dx b p lo hi k2 n2 jN e2=y9) :
  Calls Tryz.prog 17 #[.agg #[.int .i64 r9,.int .i64 p9,.int .i64 l9,.int .i64 h9],.agg #[.int .i64 k1,.bool n1,v1,.int .i64 e1,.int .i64 k2,.bool n2,v2,.int .i64 e2]] w fun e w'=>∃ u v,e = .returned (.tuple #[.agg #[.int .i64 ((b:Nat):Int),.int .i64 ((p:Nat):Int),.int .i64 lo,.int .i64 hi],u,v])∧Fv w' u x9∧Fv w' v y9∧Pl.Ex w w':=by
 obtain ⟨A1,c1,rfl,-⟩:=U.shape u1
 obtain ⟨A2,c2,rfl,-⟩:=U.shape u2
 refine Rf.aA (n:=19) [.a [vI r9,vI p9,vI l9,vI h9],.a [vI k1,vB n1,.c 0 0,vI e1,vI k2,vB n2,.c 1 0,vI e2]] [[.slice A1 (List.length jo) c1],[.slice A2 (List.length jN) c2]] [(0,(eU jo).S),(1,(eU jN).S)] Tryz.func17 rfl (by kernel_rfl) rfl rfl ⟨RS.in u1,RS.in u2,trivial⟩ ?_
 refine Rf.bu aa 1 0 rfl ?_
 refine Rf.aC 2 (TR) (.a [vI ((b:Nat):Int),vI ((p:Nat):Int),vI lo,vI hi]) rfl (Pl.en Tryz.func29) (fun α γ w h=>xE (.a [vI ((b:Nat):Int),vI ((p:Nat):Int),vI lo,vI hi]) 2 (fun _ _=>rfl) (by have h9:=iq w r9 p9 l9 h9;rw [hb,hp,hlo,hhi] at h9;exact h9)) ?_
 refine Rf.HY aa 0 5 rfl ?_
 refine Rf.aQ none fo ?_
 refine Rf.aD aa 12 6 rfl ?_
 refine Rf.qw (j:=0) (q':=0) (s:=4) Tryz.underlying27 (by kernel_rfl) rfl (by decide) rfl rfl rfl rfl rfl rfl rfl rfl rfl ?_
 refine Rf.aD aa 12 6 rfl ?_
 refine Rf.ak 3 (dW (mn x9)) (.a [vI (kd x9),vB (ng x9),.c 3 0,vI (xp x9)]) rfl (Pl.en Tryz.func48) (fun α γ w h=>fC 3 (by have h9:=kE w _ b p lo hi hf k1 n1 jo e1 (h.r 0 rfl);rw [uK] at h9;exact h9)) ?_
 refine Rf.aD aa 12 6 rfl ?_
 refine Rf.qw (j:=1) (q':=4) (s:=4) Tryz.underlying27 (by kernel_rfl) rfl (by decide) rfl rfl rfl rfl rfl rfl rfl rfl rfl ?_
 refine Rf.aD aa 12 6 rfl ?_
 refine Rf.ak 4 (dW (mn y9)) (.a [vI (kd y9),vB (ng y9),.c 4 0,vI (xp y9)]) rfl (Pl.en Tryz.func48) (fun α γ w h=>fC 4 (by have h9:=kE w _ b p lo hi hf k2 n2 jN e2 (h.r 1 rfl);rw [ve] at h9;exact h9)) ?_
 refine Rf.aD aa 12 6 rfl ?_
 refine Rf.aW (by kernel_rfl) ?_
 refine Rf.aP [4,5,6] [2,3,4] [3,4] rfl ?_
 repeat refine Rf.aO ?_
 exact Rf.aI aa (fun _ _ h=>h) rfl rfl (fun α γ w h=>⟨_,_,rfl,Fv.mk (x:=x9) (h.r 3 rfl),Fv.mk (x:=y9) (h.r 4 rfl),h.ex⟩)
end Go.Proofs.YtgcieamfidoaoaaGreatDoor
namespace Go.Proofs.YtgcieamfidoaoaaGreatDoor
open Go.RowKit Rf Fm
set_option maxRecDepth 100000
theorem Rf.nN {P:Program} {Q:Exit→Act→World→Prop} {n:Nat} {ds:List Deferred} {w0:World} {cs cs':List Code} {l:Fr} {B:Bx} {Γ:Gm} {id:Nat} (h:HV P Q n ds w0 cs l B Γ):HV P (Exit.inBlock id (Pl.Ks P Q cs)) n ds w0 (.exit id::cs') l B Γ:=fun α γ w hH=>Pl.Cr (h α γ w hH)
theorem FK {w:World} {s:Value} {n:Bool} (h:Un w s (mn (.zero n))) (k:Bool):Un w s (mn (.zero k)):=by
 show Un w s 0
 exact h
theorem tH {b p:Nat} (hb:2≤b) (hp:1≤p) {lo hi:Int} {d:Nat} {n:Bool}:rd b p lo hi d (vf b (.zero n)) = .zero false:=uM hb hp
theorem tJ {b p:Nat} (hb:2≤b) (hp:1≤p) {lo hi:Int} {d:Nat} {n:Bool} {m e:Int} (h:bO b p lo hi (.fin n m e)):rd b p lo hi d (vf b (.fin n m e)) = .fin n m e:=rd_eq hb hp (Rd.own hb hp d n h.1 h.2)
theorem IB (w:World) (m0:Bool) (vp:Value) (zs0:List Nat) (up:U w vp zs0) (vd:Value) (ds0:List Nat) (ud:U w vd ds0) (r9 p9 l9 h9:Int) (k1:Int) (n1:Bool) (e1:Int) (vH:Value) (jo:List Nat) (yO:U w vH jo) (k2:Int) (n2:Bool) (e2:Int) (vJ:Value) (jN:List Nat) (yP:U w vJ jN) (hxk:∃ n,(dx (dw r9) (fu p9) (dY l9) (fD l9 h9) k1 n1 jo e1) = .zero n) :
  Calls Tryz.prog 5 #[.agg #[.bool m0,vp,vd],.agg #[.int .i64 r9,.int .i64 p9,.int .i64 l9,.int .i64 h9],.agg #[.int .i64 k1,.bool n1,vH,.int .i64 e1,.int .i64 k2,.bool n2,vJ,.int .i64 e2]] w fun e w'=>e = .returned (.bool true)∧Pl.Ex w w':=by
 obtain ⟨Ap,cp,rfl,-⟩:=U.shape up
 obtain ⟨Ad,cd,rfl,-⟩:=U.shape ud
 obtain ⟨w9,wH⟩:∃ q,fB m0 zs0 ds0=q:=⟨_,rfl⟩
 obtain ⟨b,hb⟩:∃ x,dw r9=x:=⟨_,rfl⟩
 obtain ⟨p,hp⟩:∃ x,fu p9=x:=⟨_,rfl⟩
 obtain ⟨lo,hlo⟩:∃ x,dY l9=x:=⟨_,rfl⟩
 obtain ⟨hi,hhi⟩:∃ x,fD l9 h9=x:=⟨_,rfl⟩
 have hfm:=jM r9 p9 l9 h9
 rw [hb,hp,hlo,hhi] at hfm
 obtain ⟨hf,Fw,Fx,Fy⟩:=hfm
 have f1:=hf.p1
 have f2:=hf.ku
 have f3:=hf.l
 have f4:=hf.l1
 have f5:=hf.h1
 have hb2:=hf.b2
 obtain ⟨Oc,Od,rfl,-⟩:=U.shape yO
 obtain ⟨Oe,Og,rfl,-⟩:=U.shape yP
 obtain ⟨x9,uK⟩:∃ x,dx b p lo hi k1 n1 jo e1=x:=⟨_,rfl⟩
 obtain ⟨y9,ve⟩:∃ x,dx b p lo hi k2 n2 jN e2=x:=⟨_,rfl⟩
 have mU:bO b p lo hi x9:=by rw [← uK];exact iL hf _ _ _ _
 have Fz:bO b p lo hi y9:=by rw [← ve];exact iL hf _ _ _ _
 obtain ⟨n9,rfl⟩:∃ n,x9 = .zero n:=by subst hb hp hlo hhi uK;exact hxk
 obtain ⟨u0,hu0⟩:∃ x,rd b p lo hi 0 w9=x:=⟨_,rfl⟩
 have WG:bO b p lo hi u0:=by rw [← hu0];exact jS hb2 f1 f3
 obtain ⟨u1,hu1⟩:∃ x,rd b p lo hi 1 w9=x:=⟨_,rfl⟩
 have WH:bO b p lo hi u1:=by rw [← hu1];exact jS hb2 f1 f3
 obtain ⟨u2,hu2⟩:∃ x,rd b p lo hi 2 w9=x:=⟨_,rfl⟩
 have WI:bO b p lo hi u2:=by rw [← hu2];exact jS hb2 f1 f3
 obtain ⟨u3,hu3⟩:∃ x,rd b p lo hi 3 w9=x:=⟨_,rfl⟩
 have WJ:bO b p lo hi u3:=by rw [← hu3];exact jS hb2 f1 f3
 obtain ⟨u4,DU⟩:∃ x,rd b p lo hi 4 w9=x:=⟨_,rfl⟩
 have WK:bO b p lo hi u4:=by rw [← DU];exact jS hb2 f1 f3
 refine Rf.aA (n:=87) [.a [vB m0,.c 0 0,.c 1 0],.a [vI r9,vI p9,vI l9,vI h9],.a [vI k1,vB n1,.c 2 0,vI e1,vI k2,vB n2,.c 3 0,vI e2]] [[.slice Ap (List.length zs0) cp],[.slice Ad (List.length ds0) cd],[.slice Oc (List.length jo) Od],[.slice Oe (List.length jN) Og]] [(0,(eU zs0).S),(1,(eU ds0).S),(2,(eU jo).S),(3,(eU jN).S)] Tryz.func5 rfl (by kernel_rfl) rfl rfl ⟨RS.in up,RS.in ud,RS.in yO,RS.in yP,trivial⟩ ?_
 refine Rf.bu aa 1 0 rfl ?_
 refine Rf.aC 4 _ _ rfl (Pl.en Tryz.func12) (fun α γ w h=>aU 4 (iO _)) ?_
 refine Rf.bY aa 0 3 rfl ?_
 refine Rf.aC 5 (Kh (mn (.zero n9)) (mn y9)) (.t [.a [vI ((b:Nat):Int),vI ((p:Nat):Int),vI lo,vI hi],.a [vI 0,vB n9,.c 5 0,vI 0],.a [vI (kd y9),vB (ng y9),.c 5 1,vI (xp y9)]]) rfl (Pl.en Tryz.func17) (fun α γ w h=>xO 5 (jg w r9 p9 l9 h9 b p lo hi hb hp hlo hhi hf _ _ k1 k2 n1 n2 jo jN e1 e2 (h.r 2 rfl) (h.r 3 rfl) (.zero n9) y9 uK ve)) ?_
 refine Rf.bY aa 0 3 rfl ?_
 refine Rf.aC 6 (pI w9 4 4) (.a [.c 6 0,.c 6 1,.c 6 2]) rfl (Pl.en Tryz.func28) (fun α γ w h=>by have h9:=gP _ _ _ m0 zs0 ds0 (h.r 0 rfl) (h.r 1 rfl);rw [wH] at h9;exact iP 6 h9) ?_
 refine Rf.HY aa 1 6 rfl ?_
 refine Rf.bf ?_
 refine Rf.mP 5 ?_
 refine Rf.iX ?_
 repeat refine Rf.aO ?_
 refine Rf.aP [6,7,8,9,11,12] [3,4,6] [5,6] rfl ?_
 refine Rf.bu aa 0 7 rfl ?_
 refine Rf.ah (v:=.bool true) (fun X=>bL (by decide) X) rfl ?_
 refine Rf.HY aa 2 0 rfl ?_
 refine Rf.bf ?_
 refine Rf.bu aa 0 7 rfl ?_
 refine Rf.aC 7 (dW (mn u0)) (.t [.a [vI (kd u0),vB (ng u0),.c 7 0,vI (xp u0)],vI 0]) rfl (Pl.en Tryz.func30) (fun α γ w h=>dP 7 (by have h9:=aR w _ w9 (Qn.le (h.r 6 rfl) (by decide) (by decide)) b p lo hi hf 0 (by decide);rw [hu0] at h9;exact h9)) ?_
 refine Rf.bY aa 0 7 rfl ?_
 refine Rf.ah (v:=.bool false) (fun X=>bE (by decide) X) rfl ?_
 refine Rf.ay aa 8 rfl ?_
 refine Rf.aC 8 _ _ rfl (Pl.en Tryz.func15) (fun α γ w h=>aU 8 (ed _ _ u0 (Fv.mk (x:=u0) (h.r 7 rfl)) b p lo hi hf WG)) ?_
 refine Rf.aV (.bool false) rfl (fun X=>aT _ X) ?_
 refine Rf.ay aa 8 rfl ?_
 refine Rf.aC 9 _ _ rfl (Pl.en Tryz.func16) (fun α γ w h=>aU 9 (bQ _ _ u0 (Fv.mk (x:=u0) (h.r 7 rfl)) b p lo hi hf WG)) ?_
 refine Rf.aV (.bool false) rfl (fun X=>aT _ X) ?_
 refine Rf.bY aa 2 8 rfl ?_
 refine Rf.ah (v:=.bool false) (fun X=>aK (by decide) X) rfl ?_
 refine Rf.HY aa 2 0 rfl ?_
 refine Rf.aP [6,7,8,9,11,12,13,14,29,30,33,34,35,36,37,38,39,40,41,42,43,44,45,46,47,48,49,50,51,52,53,54,55,56] [3,4,6,7] [5,6,7] rfl ?_
 refine Rf.bu aa 0 8 rfl ?_
 refine Rf.aC 10 (pI (vf b (.zero n9)) 9 9) (.t [.a [.c 10 0,.c 10 1,.c 10 2],vT]) rfl (Pl.en Tryz.func18) (fun α γ w h=>nJ 10 (Calls.mono (gL _ _ (.zero n9) (Fv.mk (x:=(.zero n9)) (h.r 5 rfl).1) b p lo hi hf mU (fun _ h=>nomatch h)) fun e w2 ⟨u,h1,h2,h3⟩=>⟨u,h1,Qn.re h2 (Sz.le (lK (J:=4) hf mU (by omega) (by omega) (by decide) (by decide)).1 (by decide)) (Sn.le (lK (J:=4) hf mU (by omega) (by omega) (by decide) (by decide)).2 (by decide)),h3⟩)) ?_
 refine Rf.bY aa 0 8 rfl ?_
 refine Rf.aC 11 (dW (mn (.zero false))) (.t [.a [vI 0,vF,.c 11 0,vI 0],vI 0]) rfl (Pl.en Tryz.func30) (fun α γ w h=>dP 11 (by have h9:=aR w _ (vf b (.zero n9)) (Qn.le (h.r 10 rfl) (by decide) (by decide)) b p lo hi hf 0 (by decide);rw [tH hb2 f1] at h9;exact h9)) ?_
 refine Rf.HY aa 0 9 rfl ?_
 refine Rf.aP [6,7,8,9,11,12,13,14,15,16,17,18,29,30,33,34,35,36,37,38,39,40,41,42,43,44,45,46,47,48,49,50,51,52,53,54,55,56,57,58,59,60,61,62,63,64,65,66,67,68,69] [3,4,6,7,8,9] [5,6,7,10,11] rfl ?_
 refine Rf.bu aa 0 10 rfl ?_
 refine Rf.ah (v:=.bool true) (fun X=>aM (by decide) X) rfl ?_
 refine Rf.HY aa 2 10 rfl ?_
 refine Rf.aP [6,7,8,9,11,12,13,14,15,16,17,18,29,30,33,34,35,36,37,38,39,40,41,42,43,44,45,46,47,48,49,50,51,52,53,54,55,56,57,58,59,60,61,62,63,64,65,66,67,68,69,70,71,72,73] [3,4,6,7,8,9] [5,6,7,10,11] rfl ?_
 refine Rf.bu aa 0 10 rfl ?_
 refine Rf.aV (.bool false) rfl (fun X=>aT _ X) ?_
 refine Rf.ay aa 10 rfl ?_
 refine Rf.ah (v:=.bool false) (fun X=>bE (by decide) X) rfl ?_
 refine Rf.ay aa 10 rfl ?_
 refine Rf.aC 12 _ _ rfl (Pl.en Tryz.func21) (fun α γ w h=>aU 12 (bH w _ _ (.zero false) (.zero false) (Fv.mk (x:=(.zero false)) (h.r 11 rfl)) (Fv.mk (x:=.zero false) (FK (h.r 5 rfl).1 false)) rfl)) ?_
 refine Rf.aV (.bool false) rfl (fun X=>aT _ X) ?_
 refine Rf.HY aa 2 10 rfl ?_
 refine Rf.aZ ?_
 refine Rf.bu aa 0 10 rfl ?_
 refine Rf.ah (v:=.int .i64 1) (bD (a:=0) (b:=1) (by omega)) rfl ?_
 refine Rf.HY aa 0 10 rfl ?_
 refine Rf.eT ?_
 refine Rf.iX ?_
 repeat refine Rf.aO ?_
 refine Rf.aP [6,7,8,9,11,12,13,14,15,16,17,18,29,30,31,32,33,34,35,36,37,38,39,40,41,42,43,44,45,46,47,48,49,50,51,52,53,54,55,56,57,58,59,60,61,62,63,64,65,66,67,68,69,70,71,72,73,74,75,76,77,78,79,80,81,82,83,84,85] [3,4,6,7,8,9] [5,6,7,10,11] rfl ?_
 refine Rf.bu aa 0 10 rfl ?_
 refine Rf.ah (v:=.bool true) (fun X=>bL (by decide) X) rfl ?_
 refine Rf.HY aa 2 0 rfl ?_
 refine Rf.bf ?_
 refine Rf.bu aa 0 10 rfl ?_
 refine Rf.aC 13 (dW (mn u1)) (.t [.a [vI (kd u1),vB (ng u1),.c 13 0,vI (xp u1)],vI 0]) rfl (Pl.en Tryz.func30) (fun α γ w h=>dP 13 (by have h9:=aR w _ w9 (Qn.le (h.r 6 rfl) (by decide) (by decide)) b p lo hi hf 1 (by decide);rw [hu1] at h9;exact h9)) ?_
 refine Rf.bY aa 0 10 rfl ?_
 refine Rf.ah (v:=.bool false) (fun X=>bE (by decide) X) rfl ?_
 refine Rf.ay aa 11 rfl ?_
 refine Rf.aC 14 _ _ rfl (Pl.en Tryz.func15) (fun α γ w h=>aU 14 (ed _ _ u1 (Fv.mk (x:=u1) (h.r 13 rfl)) b p lo hi hf WH)) ?_
 refine Rf.aV (.bool false) rfl (fun X=>aT _ X) ?_
 refine Rf.ay aa 11 rfl ?_
 refine Rf.aC 15 _ _ rfl (Pl.en Tryz.func16) (fun α γ w h=>aU 15 (bQ _ _ u1 (Fv.mk (x:=u1) (h.r 13 rfl)) b p lo hi hf WH)) ?_
 refine Rf.aV (.bool false) rfl (fun X=>aT _ X) ?_
 refine Rf.bY aa 2 11 rfl ?_
 refine Rf.ah (v:=.bool false) (fun X=>aK (by decide) X) rfl ?_
 refine Rf.HY aa 2 0 rfl ?_
 refine Rf.aP [6,7,8,9,11,12,13,14,15,16,17,18,29,30,31,32,33,34,35,36,37,38,39,40,41,42,43,44,45,46,47,48,49,50,51,52,53,54,55,56,57,58,59,60,61,62,63,64,65,66,67,68,69,70,71,72,73,74,75,76,77,78,79,80,81,82,83,84,85] [3,4,6,8,9,10] [5,6,10,11,13] rfl ?_
 refine Rf.bu aa 0 11 rfl ?_
 refine Rf.aC 16 (pI (vf b (.zero false)) 9 9) (.t [.a [.c 16 0,.c 16 1,.c 16 2],vT]) rfl (Pl.en Tryz.func18) (fun α γ w h=>nJ 16 (Calls.mono (gL _ _ (.zero false) (Fv.mk (x:=.zero false) (FK (h.r 5 rfl).1 false)) b p lo hi hf (show bO b p lo hi (.zero false) from trivial) (fun _ h=>nomatch h)) fun e w2 ⟨u,h1,h2,h3⟩=>⟨u,h1,Qn.re h2 (Sz.le (lK (J:=4) hf (show bO b p lo hi (.zero false) from trivial) (by omega) (by omega) (by decide) (by decide)).1 (by decide)) (Sn.le (lK (J:=4) hf (show bO b p lo hi (.zero false) from trivial) (by omega) (by omega) (by decide) (by decide)).2 (by decide)),h3⟩)) ?_
 refine Rf.bY aa 0 11 rfl ?_
 refine Rf.aC 17 (dW (mn (.zero false))) (.t [.a [vI 0,vF,.c 17 0,vI 0],vI 0]) rfl (Pl.en Tryz.func30) (fun α γ w h=>dP 17 (by have h9:=aR w _ (vf b (.zero false)) (Qn.le (h.r 16 rfl) (by decide) (by decide)) b p lo hi hf 1 (by decide);rw [tH hb2 f1] at h9;exact h9)) ?_
 refine Rf.HY aa 0 12 rfl ?_
 refine Rf.aP [6,7,8,9,11,12,13,14,15,16,17,18,29,30,31,32,33,34,35,36,37,38,39,40,41,42,43,44,45,46,47,48,49,50,51,52,53,54,55,56,57,58,59,60,61,62,63,64,65,66,67,68,69,70,71,72,73,74,75,76,77,78,79,80,81,82,83,84,85] [3,4,6,10,11,12] [5,6,11,13,16,17] rfl ?_
 refine Rf.bu aa 0 13 rfl ?_
 refine Rf.ah (v:=.bool true) (fun X=>aM (by decide) X) rfl ?_
 refine Rf.HY aa 2 13 rfl ?_
 refine Rf.aP [6,7,8,9,11,12,13,14,15,16,17,18,29,30,31,32,33,34,35,36,37,38,39,40,41,42,43,44,45,46,47,48,49,50,51,52,53,54,55,56,57,58,59,60,61,62,63,64,65,66,67,68,69,70,71,72,73,74,75,76,77,78,79,80,81,82,83,84,85] [3,4,6,10,11,12] [5,6,11,13,16,17] rfl ?_
 refine Rf.bu aa 0 13 rfl ?_
 refine Rf.aV (.bool false) rfl (fun X=>aT _ X) ?_
 refine Rf.ay aa 13 rfl ?_
 refine Rf.ah (v:=.bool false) (fun X=>bE (by decide) X) rfl ?_
 refine Rf.ay aa 13 rfl ?_
 refine Rf.aC 18 _ _ rfl (Pl.en Tryz.func21) (fun α γ w h=>aU 18 (bH w _ _ (.zero false) (.zero false) (Fv.mk (x:=(.zero false)) (h.r 17 rfl)) (Fv.mk (x:=.zero false) (FK (h.r 5 rfl).1 false)) rfl)) ?_
 refine Rf.aV (.bool false) rfl (fun X=>aT _ X) ?_
 refine Rf.HY aa 2 13 rfl ?_
 refine Rf.aZ ?_
 refine Rf.bu aa 0 13 rfl ?_
 refine Rf.ah (v:=.int .i64 2) (bD (a:=1) (b:=1) (by omega)) rfl ?_
 refine Rf.HY aa 0 13 rfl ?_
 refine Rf.eT ?_
 refine Rf.iX ?_
 repeat refine Rf.aO ?_
 refine Rf.aP [6,7,8,9,11,12,13,14,15,16,17,18,29,30,31,32,33,34,35,36,37,38,39,40,41,42,43,44,45,46,47,48,49,50,51,52,53,54,55,56,57,58,59,60,61,62,63,64,65,66,67,68,69,70,71,72,73,74,75,76,77,78,79,80,81,82,83,84,85] [3,4,6,10,11,12] [5,6,13,16,17] rfl ?_
 refine Rf.bu aa 0 13 rfl ?_
 refine Rf.ah (v:=.bool true) (fun X=>bL (by decide) X) rfl ?_
 refine Rf.HY aa 2 0 rfl ?_
 refine Rf.bf ?_
 refine Rf.bu aa 0 13 rfl ?_
 refine Rf.aC 19 (dW (mn u2)) (.t [.a [vI (kd u2),vB (ng u2),.c 19 0,vI (xp u2)],vI 0]) rfl (Pl.en Tryz.func30) (fun α γ w h=>dP 19 (by have h9:=aR w _ w9 (Qn.le (h.r 6 rfl) (by decide) (by decide)) b p lo hi hf 2 (by decide);rw [hu2] at h9;exact h9)) ?_
 refine Rf.bY aa 0 13 rfl ?_
 refine Rf.ah (v:=.bool false) (fun X=>bE (by decide) X) rfl ?_
 refine Rf.ay aa 14 rfl ?_
 refine Rf.aC 20 _ _ rfl (Pl.en Tryz.func15) (fun α γ w h=>aU 20 (ed _ _ u2 (Fv.mk (x:=u2) (h.r 19 rfl)) b p lo hi hf WI)) ?_
 refine Rf.aV (.bool false) rfl (fun X=>aT _ X) ?_
 refine Rf.ay aa 14 rfl ?_
 refine Rf.aC 21 _ _ rfl (Pl.en Tryz.func16) (fun α γ w h=>aU 21 (bQ _ _ u2 (Fv.mk (x:=u2) (h.r 19 rfl)) b p lo hi hf WI)) ?_
 refine Rf.aV (.bool false) rfl (fun X=>aT _ X) ?_
 refine Rf.bY aa 2 14 rfl ?_
 refine Rf.ah (v:=.bool false) (fun X=>aK (by decide) X) rfl ?_
 refine Rf.HY aa 2 0 rfl ?_
 refine Rf.aP [6,7,8,9,11,12,13,14,15,16,17,18,29,30,31,32,33,34,35,36,37,38,39,40,41,42,43,44,45,46,47,48,49,50,51,52,53,54,55,56,57,58,59,60,61,62,63,64,65,66,67,68,69,70,71,72,73,74,75,76,77,78,79,80,81,82,83,84,85] [3,4,6,11,12,13] [5,6,16,17,19] rfl ?_
 refine Rf.bu aa 0 14 rfl ?_
 refine Rf.aC 22 (pI (vf b (.zero false)) 9 9) (.t [.a [.c 22 0,.c 22 1,.c 22 2],vT]) rfl (Pl.en Tryz.func18) (fun α γ w h=>nJ 22 (Calls.mono (gL _ _ (.zero false) (Fv.mk (x:=.zero false) (FK (h.r 5 rfl).1 false)) b p lo hi hf (show bO b p lo hi (.zero false) from trivial) (fun _ h=>nomatch h)) fun e w2 ⟨u,h1,h2,h3⟩=>⟨u,h1,Qn.re h2 (Sz.le (lK (J:=4) hf (show bO b p lo hi (.zero false) from trivial) (by omega) (by omega) (by decide) (by decide)).1 (by decide)) (Sn.le (lK (J:=4) hf (show bO b p lo hi (.zero false) from trivial) (by omega) (by omega) (by decide) (by decide)).2 (by decide)),h3⟩)) ?_
 refine Rf.bY aa 0 14 rfl ?_
 refine Rf.aC 23 (dW (mn (.zero false))) (.t [.a [vI 0,vF,.c 23 0,vI 0],vI 0]) rfl (Pl.en Tryz.func30) (fun α γ w h=>dP 23 (by have h9:=aR w _ (vf b (.zero false)) (Qn.le (h.r 22 rfl) (by decide) (by decide)) b p lo hi hf 2 (by decide);rw [tH hb2 f1] at h9;exact h9)) ?_
 refine Rf.HY aa 0 15 rfl ?_
 refine Rf.aP [6,7,8,9,11,12,13,14,15,16,17,18,29,30,31,32,33,34,35,36,37,38,39,40,41,42,43,44,45,46,47,48,49,50,51,52,53,54,55,56,57,58,59,60,61,62,63,64,65,66,67,68,69,70,71,72,73,74,75,76,77,78,79,80,81,82,83,84,85] [3,4,6,13,14,15] [5,6,17,19,22,23] rfl ?_
 refine Rf.bu aa 0 16 rfl ?_
 refine Rf.ah (v:=.bool true) (fun X=>aM (by decide) X) rfl ?_
 refine Rf.HY aa 2 16 rfl ?_
 refine Rf.aP [6,7,8,9,11,12,13,14,15,16,17,18,29,30,31,32,33,34,35,36,37,38,39,40,41,42,43,44,45,46,47,48,49,50,51,52,53,54,55,56,57,58,59,60,61,62,63,64,65,66,67,68,69,70,71,72,73,74,75,76,77,78,79,80,81,82,83,84,85] [3,4,6,13,14,15] [5,6,17,19,22,23] rfl ?_
 refine Rf.bu aa 0 16 rfl ?_
 refine Rf.aV (.bool false) rfl (fun X=>aT _ X) ?_
 refine Rf.ay aa 16 rfl ?_
 refine Rf.ah (v:=.bool false) (fun X=>bE (by decide) X) rfl ?_
 refine Rf.ay aa 16 rfl ?_
 refine Rf.aC 24 _ _ rfl (Pl.en Tryz.func21) (fun α γ w h=>aU 24 (bH w _ _ (.zero false) (.zero false) (Fv.mk (x:=(.zero false)) (h.r 23 rfl)) (Fv.mk (x:=.zero false) (FK (h.r 5 rfl).1 false)) rfl)) ?_
 refine Rf.aV (.bool false) rfl (fun X=>aT _ X) ?_
 refine Rf.HY aa 2 16 rfl ?_
 refine Rf.aZ ?_
 refine Rf.bu aa 0 16 rfl ?_
 refine Rf.ah (v:=.int .i64 3) (bD (a:=2) (b:=1) (by omega)) rfl ?_
 refine Rf.HY aa 0 16 rfl ?_
 refine Rf.eT ?_
 refine Rf.iX ?_
 repeat refine Rf.aO ?_
 refine Rf.aP [6,7,8,9,11,12,13,14,15,16,17,18,29,30,31,32,33,34,35,36,37,38,39,40,41,42,43,44,45,46,47,48,49,50,51,52,53,54,55,56,57,58,59,60,61,62,63,64,65,66,67,68,69,70,71,72,73,74,75,76,77,78,79,80,81,82,83,84,85] [3,4,6,13,14,15] [5,6,19,22,23] rfl ?_
 refine Rf.bu aa 0 16 rfl ?_
 refine Rf.ah (v:=.bool true) (fun X=>bL (by decide) X) rfl ?_
 refine Rf.HY aa 2 0 rfl ?_
 refine Rf.bf ?_
 refine Rf.bu aa 0 16 rfl ?_
 refine Rf.aC 25 (dW (mn u3)) (.t [.a [vI (kd u3),vB (ng u3),.c 25 0,vI (xp u3)],vI 0]) rfl (Pl.en Tryz.func30) (fun α γ w h=>dP 25 (by have h9:=aR w _ w9 (Qn.le (h.r 6 rfl) (by decide) (by decide)) b p lo hi hf 3 (by decide);rw [hu3] at h9;exact h9)) ?_
 refine Rf.bY aa 0 16 rfl ?_
 refine Rf.ah (v:=.bool false) (fun X=>bE (by decide) X) rfl ?_
 refine Rf.ay aa 17 rfl ?_
 refine Rf.aC 26 _ _ rfl (Pl.en Tryz.func15) (fun α γ w h=>aU 26 (ed _ _ u3 (Fv.mk (x:=u3) (h.r 25 rfl)) b p lo hi hf WJ)) ?_
 refine Rf.aV (.bool false) rfl (fun X=>aT _ X) ?_
 refine Rf.ay aa 17 rfl ?_
 refine Rf.aC 27 _ _ rfl (Pl.en Tryz.func16) (fun α γ w h=>aU 27 (bQ _ _ u3 (Fv.mk (x:=u3) (h.r 25 rfl)) b p lo hi hf WJ)) ?_
 refine Rf.aV (.bool false) rfl (fun X=>aT _ X) ?_
 refine Rf.bY aa 2 17 rfl ?_
 refine Rf.ah (v:=.bool false) (fun X=>aK (by decide) X) rfl ?_
 refine Rf.HY aa 2 0 rfl ?_
 refine Rf.aP [6,7,8,9,11,12,13,14,15,16,17,18,29,30,31,32,33,34,35,36,37,38,39,40,41,42,43,44,45,46,47,48,49,50,51,52,53,54,55,56,57,58,59,60,61,62,63,64,65,66,67,68,69,70,71,72,73,74,75,76,77,78,79,80,81,82,83,84,85] [3,4,6,14,15,16] [5,6,22,23,25] rfl ?_
 refine Rf.bu aa 0 17 rfl ?_
 refine Rf.aC 28 (pI (vf b (.zero false)) 9 9) (.t [.a [.c 28 0,.c 28 1,.c 28 2],vT]) rfl (Pl.en Tryz.func18) (fun α γ w h=>nJ 28 (Calls.mono (gL _ _ (.zero false) (Fv.mk (x:=.zero false) (FK (h.r 5 rfl).1 false)) b p lo hi hf (show bO b p lo hi (.zero false) from trivial) (fun _ h=>nomatch h)) fun e w2 ⟨u,h1,h2,h3⟩=>⟨u,h1,Qn.re h2 (Sz.le (lK (J:=4) hf (show bO b p lo hi (.zero false) from trivial) (by omega) (by omega) (by decide) (by decide)).1 (by decide)) (Sn.le (lK (J:=4) hf (show bO b p lo hi (.zero false) from trivial) (by omega) (by omega) (by decide) (by decide)).2 (by decide)),h3⟩)) ?_
 refine Rf.bY aa 0 17 rfl ?_
 refine Rf.aC 29 (dW (mn (.zero false))) (.t [.a [vI 0,vF,.c 29 0,vI 0],vI 0]) rfl (Pl.en Tryz.func30) (fun α γ w h=>dP 29 (by have h9:=aR w _ (vf b (.zero false)) (Qn.le (h.r 28 rfl) (by decide) (by decide)) b p lo hi hf 3 (by decide);rw [tH hb2 f1] at h9;exact h9)) ?_
 refine Rf.HY aa 0 18 rfl ?_
 refine Rf.aP [6,7,8,9,11,12,13,14,15,16,17,18,29,30,31,32,33,34,35,36,37,38,39,40,41,42,43,44,45,46,47,48,49,50,51,52,53,54,55,56,57,58,59,60,61,62,63,64,65,66,67,68,69,70,71,72,73,74,75,76,77,78,79,80,81,82,83,84,85] [3,4,6,16,17,18] [5,6,23,25,28,29] rfl ?_
 refine Rf.bu aa 0 19 rfl ?_
 refine Rf.ah (v:=.bool true) (fun X=>aM (by decide) X) rfl ?_
 refine Rf.HY aa 2 19 rfl ?_
 refine Rf.aP [6,7,8,9,11,12,13,14,15,16,17,18,29,30,31,32,33,34,35,36,37,38,39,40,41,42,43,44,45,46,47,48,49,50,51,52,53,54,55,56,57,58,59,60,61,62,63,64,65,66,67,68,69,70,71,72,73,74,75,76,77,78,79,80,81,82,83,84,85] [3,4,6,16,17,18] [5,6,23,25,28,29] rfl ?_
 refine Rf.bu aa 0 19 rfl ?_
 refine Rf.aV (.bool false) rfl (fun X=>aT _ X) ?_
 refine Rf.ay aa 19 rfl ?_
 refine Rf.ah (v:=.bool false) (fun X=>bE (by decide) X) rfl ?_
 refine Rf.ay aa 19 rfl ?_
 refine Rf.aC 30 _ _ rfl (Pl.en Tryz.func21) (fun α γ w h=>aU 30 (bH w _ _ (.zero false) (.zero false) (Fv.mk (x:=(.zero false)) (h.r 29 rfl)) (Fv.mk (x:=.zero false) (FK (h.r 5 rfl).1 false)) rfl)) ?_
 refine Rf.aV (.bool false) rfl (fun X=>aT _ X) ?_
 refine Rf.HY aa 2 19 rfl ?_
 refine Rf.aZ ?_
 refine Rf.bu aa 0 19 rfl ?_
 refine Rf.ah (v:=.int .i64 4) (bD (a:=3) (b:=1) (by omega)) rfl ?_
 refine Rf.HY aa 0 19 rfl ?_
 refine Rf.eT ?_
 refine Rf.iX ?_
 repeat refine Rf.aO ?_
 refine Rf.aP [6,7,8,9,11,12,13,14,15,16,17,18,29,30,31,32,33,34,35,36,37,38,39,40,41,42,43,44,45,46,47,48,49,50,51,52,53,54,55,56,57,58,59,60,61,62,63,64,65,66,67,68,69,70,71,72,73,74,75,76,77,78,79,80,81,82,83,84,85] [3,4,6,16,17,18] [5,6,25,28,29] rfl ?_
 refine Rf.bu aa 0 19 rfl ?_
 refine Rf.ah (v:=.bool true) (fun X=>bL (by decide) X) rfl ?_
 refine Rf.HY aa 2 0 rfl ?_
 refine Rf.bf ?_
 refine Rf.bu aa 0 19 rfl ?_
 refine Rf.aC 31 (dW (mn u4)) (.t [.a [vI (kd u4),vB (ng u4),.c 31 0,vI (xp u4)],vI 0]) rfl (Pl.en Tryz.func30) (fun α γ w h=>dP 31 (by have h9:=aR w _ w9 (Qn.le (h.r 6 rfl) (by decide) (by decide)) b p lo hi hf 4 (by decide);rw [DU] at h9;exact h9)) ?_
 refine Rf.bY aa 0 19 rfl ?_
 refine Rf.ah (v:=.bool false) (fun X=>bE (by decide) X) rfl ?_
 refine Rf.ay aa 20 rfl ?_
 refine Rf.aC 32 _ _ rfl (Pl.en Tryz.func15) (fun α γ w h=>aU 32 (ed _ _ u4 (Fv.mk (x:=u4) (h.r 31 rfl)) b p lo hi hf WK)) ?_
 refine Rf.aV (.bool false) rfl (fun X=>aT _ X) ?_
 refine Rf.ay aa 20 rfl ?_
 refine Rf.aC 33 _ _ rfl (Pl.en Tryz.func16) (fun α γ w h=>aU 33 (bQ _ _ u4 (Fv.mk (x:=u4) (h.r 31 rfl)) b p lo hi hf WK)) ?_
 refine Rf.aV (.bool false) rfl (fun X=>aT _ X) ?_
 refine Rf.bY aa 2 20 rfl ?_
 refine Rf.ah (v:=.bool false) (fun X=>aK (by decide) X) rfl ?_
 refine Rf.HY aa 2 0 rfl ?_
 refine Rf.aP [6,7,8,9,11,12,13,14,15,16,17,18,29,30,31,32,33,34,35,36,37,38,39,40,41,42,43,44,45,46,47,48,49,50,51,52,53,54,55,56,57,58,59,60,61,62,63,64,65,66,67,68,69,70,71,72,73,74,75,76,77,78,79,80,81,82,83,84,85] [3,4,6,17,18,19] [5,6,28,29,31] rfl ?_
 refine Rf.bu aa 0 20 rfl ?_
 refine Rf.aC 34 (pI (vf b (.zero false)) 9 9) (.t [.a [.c 34 0,.c 34 1,.c 34 2],vT]) rfl (Pl.en Tryz.func18) (fun α γ w h=>nJ 34 (Calls.mono (gL _ _ (.zero false) (Fv.mk (x:=.zero false) (FK (h.r 5 rfl).1 false)) b p lo hi hf (show bO b p lo hi (.zero false) from trivial) (fun _ h=>nomatch h)) fun e w2 ⟨u,h1,h2,h3⟩=>⟨u,h1,Qn.re h2 (Sz.le (lK (J:=4) hf (show bO b p lo hi (.zero false) from trivial) (by omega) (by omega) (by decide) (by decide)).1 (by decide)) (Sn.le (lK (J:=4) hf (show bO b p lo hi (.zero false) from trivial) (by omega) (by omega) (by decide) (by decide)).2 (by decide)),h3⟩)) ?_
 refine Rf.bY aa 0 20 rfl ?_
 refine Rf.aC 35 (dW (mn (.zero false))) (.t [.a [vI 0,vF,.c 35 0,vI 0],vI 0]) rfl (Pl.en Tryz.func30) (fun α γ w h=>dP 35 (by have h9:=aR w _ (vf b (.zero false)) (Qn.le (h.r 34 rfl) (by decide) (by decide)) b p lo hi hf 4 (by decide);rw [tH hb2 f1] at h9;exact h9)) ?_
 refine Rf.HY aa 0 21 rfl ?_
 refine Rf.aP [6,7,8,9,11,12,13,14,15,16,17,18,29,30,31,32,33,34,35,36,37,38,39,40,41,42,43,44,45,46,47,48,49,50,51,52,53,54,55,56,57,58,59,60,61,62,63,64,65,66,67,68,69,70,71,72,73,74,75,76,77,78,79,80,81,82,83,84,85] [3,4,6,19,20,21] [5,6,29,31,34,35] rfl ?_
 refine Rf.bu aa 0 22 rfl ?_
 refine Rf.ah (v:=.bool true) (fun X=>aM (by decide) X) rfl ?_
 refine Rf.HY aa 2 22 rfl ?_
 refine Rf.aP [6,7,8,9,11,12,13,14,15,16,17,18,29,30,31,32,33,34,35,36,37,38,39,40,41,42,43,44,45,46,47,48,49,50,51,52,53,54,55,56,57,58,59,60,61,62,63,64,65,66,67,68,69,70,71,72,73,74,75,76,77,78,79,80,81,82,83,84,85] [3,4,6,19,20,21] [5,6,29,31,34,35] rfl ?_
 refine Rf.bu aa 0 22 rfl ?_
 refine Rf.aV (.bool false) rfl (fun X=>aT _ X) ?_
 refine Rf.ay aa 22 rfl ?_
 refine Rf.ah (v:=.bool false) (fun X=>bE (by decide) X) rfl ?_
 refine Rf.ay aa 22 rfl ?_
 refine Rf.aC 36 _ _ rfl (Pl.en Tryz.func21) (fun α γ w h=>aU 36 (bH w _ _ (.zero false) (.zero false) (Fv.mk (x:=(.zero false)) (h.r 35 rfl)) (Fv.mk (x:=.zero false) (FK (h.r 5 rfl).1 false)) rfl)) ?_
 refine Rf.aV (.bool false) rfl (fun X=>aT _ X) ?_
 refine Rf.HY aa 2 22 rfl ?_
 refine Rf.aZ ?_
 refine Rf.bu aa 0 22 rfl ?_
 refine Rf.ah (v:=.int .i64 5) (bD (a:=4) (b:=1) (by omega)) rfl ?_
 refine Rf.HY aa 0 22 rfl ?_
 refine Rf.eT ?_
 refine Rf.ru ?_
 repeat refine Rf.aO ?_
 refine Rf.aP [6,7,8,9,11,12,13,14,15,16,17,18,29,30,31,32,33,34,35,36,37,38,39,40,41,42,43,44,45,46,47,48,49,50,51,52,53,54,55,56,57,58,59,60,61,62,63,64,65,66,67,68,69,70,71,72,73,74,75,76,77,78,79,80,81,82,83,84,85] [3,4,6,19,20,21] [5,6,31,34,35] rfl ?_
 refine Rf.bu aa 0 22 rfl ?_
 refine Rf.ah (v:=.bool false) (fun X=>bM (by decide) X) rfl ?_
 refine Rf.HY aa 1 0 rfl ?_
 refine Rf.og ?_
 refine Rf.HX aa 1 22 rfl ?_
 exact Rf.aI aa (fun _ _ h=>h) rfl rfl (fun α γ w h=>⟨rfl,h.ex⟩)
theorem IC (w:World) (m0:Bool) (vp:Value) (zs0:List Nat) (up:U w vp zs0) (vd:Value) (ds0:List Nat) (ud:U w vd ds0) (r9 p9 l9 h9:Int) (k1:Int) (n1:Bool) (e1:Int) (vH:Value) (jo:List Nat) (yO:U w vH jo) (k2:Int) (n2:Bool) (e2:Int) (vJ:Value) (jN:List Nat) (yP:U w vJ jN) (hxk:∃ n,(dx (dw r9) (fu p9) (dY l9) (fD l9 h9) k1 n1 jo e1) = .inf n) :
  Calls Tryz.prog 5 #[.agg #[.bool m0,vp,vd],.agg #[.int .i64 r9,.int .i64 p9,.int .i64 l9,.int .i64 h9],.agg #[.int .i64 k1,.bool n1,vH,.int .i64 e1,.int .i64 k2,.bool n2,vJ,.int .i64 e2]] w fun e w'=>e = .returned (.bool true)∧Pl.Ex w w':=by
 obtain ⟨Ap,cp,rfl,-⟩:=U.shape up
 obtain ⟨Ad,cd,rfl,-⟩:=U.shape ud
 obtain ⟨w9,wH⟩:∃ q,fB m0 zs0 ds0=q:=⟨_,rfl⟩
 obtain ⟨b,hb⟩:∃ x,dw r9=x:=⟨_,rfl⟩
 obtain ⟨p,hp⟩:∃ x,fu p9=x:=⟨_,rfl⟩
 obtain ⟨lo,hlo⟩:∃ x,dY l9=x:=⟨_,rfl⟩
 obtain ⟨hi,hhi⟩:∃ x,fD l9 h9=x:=⟨_,rfl⟩
 have hfm:=jM r9 p9 l9 h9
 rw [hb,hp,hlo,hhi] at hfm
 obtain ⟨hf,Fw,Fx,Fy⟩:=hfm
 have f1:=hf.p1
 have f2:=hf.ku
 have f3:=hf.l
 have f4:=hf.l1
 have f5:=hf.h1
 have hb2:=hf.b2
 obtain ⟨Oc,Od,rfl,-⟩:=U.shape yO
 obtain ⟨Oe,Og,rfl,-⟩:=U.shape yP
 obtain ⟨x9,uK⟩:∃ x,dx b p lo hi k1 n1 jo e1=x:=⟨_,rfl⟩
 obtain ⟨y9,ve⟩:∃ x,dx b p lo hi k2 n2 jN e2=x:=⟨_,rfl⟩
 have mU:bO b p lo hi x9:=by rw [← uK];exact iL hf _ _ _ _
 have Fz:bO b p lo hi y9:=by rw [← ve];exact iL hf _ _ _ _
 obtain ⟨n9,rfl⟩:∃ n,x9 = .inf n:=by subst hb hp hlo hhi uK;exact hxk
 obtain ⟨u0,hu0⟩:∃ x,rd b p lo hi 0 w9=x:=⟨_,rfl⟩
 have WG:bO b p lo hi u0:=by rw [← hu0];exact jS hb2 f1 f3
 obtain ⟨u1,hu1⟩:∃ x,rd b p lo hi 1 w9=x:=⟨_,rfl⟩
 have WH:bO b p lo hi u1:=by rw [← hu1];exact jS hb2 f1 f3
 obtain ⟨u2,hu2⟩:∃ x,rd b p lo hi 2 w9=x:=⟨_,rfl⟩
 have WI:bO b p lo hi u2:=by rw [← hu2];exact jS hb2 f1 f3
 obtain ⟨u3,hu3⟩:∃ x,rd b p lo hi 3 w9=x:=⟨_,rfl⟩
 have WJ:bO b p lo hi u3:=by rw [← hu3];exact jS hb2 f1 f3
 obtain ⟨u4,DU⟩:∃ x,rd b p lo hi 4 w9=x:=⟨_,rfl⟩
 have WK:bO b p lo hi u4:=by rw [← DU];exact jS hb2 f1 f3
 refine Rf.aA (n:=87) [.a [vB m0,.c 0 0,.c 1 0],.a [vI r9,vI p9,vI l9,vI h9],.a [vI k1,vB n1,.c 2 0,vI e1,vI k2,vB n2,.c 3 0,vI e2]] [[.slice Ap (List.length zs0) cp],[.slice Ad (List.length ds0) cd],[.slice Oc (List.length jo) Od],[.slice Oe (List.length jN) Og]] [(0,(eU zs0).S),(1,(eU ds0).S),(2,(eU jo).S),(3,(eU jN).S)] Tryz.func5 rfl (by kernel_rfl) rfl rfl ⟨RS.in up,RS.in ud,RS.in yO,RS.in yP,trivial⟩ ?_
 refine Rf.bu aa 1 0 rfl ?_
 refine Rf.aC 4 _ _ rfl (Pl.en Tryz.func12) (fun α γ w h=>aU 4 (iO _)) ?_
 refine Rf.bY aa 0 3 rfl ?_
 refine Rf.aC 5 (Kh (mn (.inf n9)) (mn y9)) (.t [.a [vI ((b:Nat):Int),vI ((p:Nat):Int),vI lo,vI hi],.a [vI 2,vB n9,.c 5 0,vI 0],.a [vI (kd y9),vB (ng y9),.c 5 1,vI (xp y9)]]) rfl (Pl.en Tryz.func17) (fun α γ w h=>xO 5 (jg w r9 p9 l9 h9 b p lo hi hb hp hlo hhi hf _ _ k1 k2 n1 n2 jo jN e1 e2 (h.r 2 rfl) (h.r 3 rfl) (.inf n9) y9 uK ve)) ?_
 refine Rf.bY aa 0 3 rfl ?_
 refine Rf.aC 6 (pI w9 4 4) (.a [.c 6 0,.c 6 1,.c 6 2]) rfl (Pl.en Tryz.func28) (fun α γ w h=>by have h9:=gP _ _ _ m0 zs0 ds0 (h.r 0 rfl) (h.r 1 rfl);rw [wH] at h9;exact iP 6 h9) ?_
 refine Rf.HY aa 1 6 rfl ?_
 refine Rf.bf ?_
 refine Rf.mP 5 ?_
 refine Rf.iX ?_
 repeat refine Rf.aO ?_
 refine Rf.aP [6,7,8,9,11,12] [3,4,6] [5,6] rfl ?_
 refine Rf.bu aa 0 7 rfl ?_
 refine Rf.ah (v:=.bool true) (fun X=>bL (by decide) X) rfl ?_
 refine Rf.HY aa 2 0 rfl ?_
 refine Rf.bf ?_
 refine Rf.bu aa 0 7 rfl ?_
 refine Rf.aC 7 (dW (mn u0)) (.t [.a [vI (kd u0),vB (ng u0),.c 7 0,vI (xp u0)],vI 0]) rfl (Pl.en Tryz.func30) (fun α γ w h=>dP 7 (by have h9:=aR w _ w9 (Qn.le (h.r 6 rfl) (by decide) (by decide)) b p lo hi hf 0 (by decide);rw [hu0] at h9;exact h9)) ?_
 refine Rf.bY aa 0 7 rfl ?_
 refine Rf.ah (v:=.bool false) (fun X=>bE (by decide) X) rfl ?_
 refine Rf.ay aa 8 rfl ?_
 refine Rf.aC 8 _ _ rfl (Pl.en Tryz.func15) (fun α γ w h=>aU 8 (ed _ _ u0 (Fv.mk (x:=u0) (h.r 7 rfl)) b p lo hi hf WG)) ?_
 refine Rf.aV (.bool false) rfl (fun X=>aT _ X) ?_
 refine Rf.ay aa 8 rfl ?_
 refine Rf.aC 9 _ _ rfl (Pl.en Tryz.func16) (fun α γ w h=>aU 9 (bQ _ _ u0 (Fv.mk (x:=u0) (h.r 7 rfl)) b p lo hi hf WG)) ?_
 refine Rf.aV (.bool false) rfl (fun X=>aT _ X) ?_
 refine Rf.bY aa 2 8 rfl ?_
 refine Rf.ah (v:=.bool true) (fun X=>aM (by decide) X) rfl ?_
 refine Rf.HY aa 1 0 rfl ?_
 refine Rf.nN ?_
 refine Rf.bu aa 0 8 rfl ?_
 refine Rf.ah (v:=.int .i64 1) (bD (a:=0) (b:=1) (by omega)) rfl ?_
 refine Rf.HY aa 0 8 rfl ?_
 refine Rf.eT ?_
 refine Rf.iX ?_
 repeat refine Rf.aO ?_
 refine Rf.aP [6,7,8,9,11,12,13,14,29,30,31,32,33,34,35,36,37,38,39,40,41,42,43,44,45,46,47,48,49,50,51,52,53,54,55,56] [3,4,6,7] [5,6,7] rfl ?_
 refine Rf.bu aa 0 8 rfl ?_
 refine Rf.ah (v:=.bool true) (fun X=>bL (by decide) X) rfl ?_
 refine Rf.HY aa 2 0 rfl ?_
 refine Rf.bf ?_
 refine Rf.bu aa 0 8 rfl ?_
 refine Rf.aC 10 (dW (mn u1)) (.t [.a [vI (kd u1),vB (ng u1),.c 10 0,vI (xp u1)],vI 0]) rfl (Pl.en Tryz.func30) (fun α γ w h=>dP 10 (by have h9:=aR w _ w9 (Qn.le (h.r 6 rfl) (by decide) (by decide)) b p lo hi hf 1 (by decide);rw [hu1] at h9;exact h9)) ?_
 refine Rf.bY aa 0 8 rfl ?_
 refine Rf.ah (v:=.bool false) (fun X=>bE (by decide) X) rfl ?_
 refine Rf.ay aa 9 rfl ?_
 refine Rf.aC 11 _ _ rfl (Pl.en Tryz.func15) (fun α γ w h=>aU 11 (ed _ _ u1 (Fv.mk (x:=u1) (h.r 10 rfl)) b p lo hi hf WH)) ?_
 refine Rf.aV (.bool false) rfl (fun X=>aT _ X) ?_
 refine Rf.ay aa 9 rfl ?_
 refine Rf.aC 12 _ _ rfl (Pl.en Tryz.func16) (fun α γ w h=>aU 12 (bQ _ _ u1 (Fv.mk (x:=u1) (h.r 10 rfl)) b p lo hi hf WH)) ?_
 refine Rf.aV (.bool false) rfl (fun X=>aT _ X) ?_
 refine Rf.bY aa 2 9 rfl ?_
 refine Rf.ah (v:=.bool true) (fun X=>aM (by decide) X) rfl ?_
 refine Rf.HY aa 1 0 rfl ?_
 refine Rf.nN ?_
 refine Rf.bu aa 0 9 rfl ?_
 refine Rf.ah (v:=.int .i64 2) (bD (a:=1) (b:=1) (by omega)) rfl ?_
 refine Rf.HY aa 0 9 rfl ?_
 refine Rf.eT ?_
 refine Rf.iX ?_
 repeat refine Rf.aO ?_
 refine Rf.aP [6,7,8,9,11,12,13,14,29,30,31,32,33,34,35,36,37,38,39,40,41,42,43,44,45,46,47,48,49,50,51,52,53,54,55,56] [3,4,6,8] [5,6,10] rfl ?_
 refine Rf.bu aa 0 9 rfl ?_
 refine Rf.ah (v:=.bool true) (fun X=>bL (by decide) X) rfl ?_
 refine Rf.HY aa 2 0 rfl ?_
 refine Rf.bf ?_
 refine Rf.bu aa 0 9 rfl ?_
 refine Rf.aC 13 (dW (mn u2)) (.t [.a [vI (kd u2),vB (ng u2),.c 13 0,vI (xp u2)],vI 0]) rfl (Pl.en Tryz.func30) (fun α γ w h=>dP 13 (by have h9:=aR w _ w9 (Qn.le (h.r 6 rfl) (by decide) (by decide)) b p lo hi hf 2 (by decide);rw [hu2] at h9;exact h9)) ?_
 refine Rf.bY aa 0 9 rfl ?_
 refine Rf.ah (v:=.bool false) (fun X=>bE (by decide) X) rfl ?_
 refine Rf.ay aa 10 rfl ?_
 refine Rf.aC 14 _ _ rfl (Pl.en Tryz.func15) (fun α γ w h=>aU 14 (ed _ _ u2 (Fv.mk (x:=u2) (h.r 13 rfl)) b p lo hi hf WI)) ?_
 refine Rf.aV (.bool false) rfl (fun X=>aT _ X) ?_
 refine Rf.ay aa 10 rfl ?_
 refine Rf.aC 15 _ _ rfl (Pl.en Tryz.func16) (fun α γ w h=>aU 15 (bQ _ _ u2 (Fv.mk (x:=u2) (h.r 13 rfl)) b p lo hi hf WI)) ?_
 refine Rf.aV (.bool false) rfl (fun X=>aT _ X) ?_
 refine Rf.bY aa 2 10 rfl ?_
 refine Rf.ah (v:=.bool true) (fun X=>aM (by decide) X) rfl ?_
 refine Rf.HY aa 1 0 rfl ?_
 refine Rf.nN ?_
 refine Rf.bu aa 0 10 rfl ?_
 refine Rf.ah (v:=.int .i64 3) (bD (a:=2) (b:=1) (by omega)) rfl ?_
 refine Rf.HY aa 0 10 rfl ?_
 refine Rf.eT ?_
 refine Rf.iX ?_
 repeat refine Rf.aO ?_
 refine Rf.aP [6,7,8,9,11,12,13,14,29,30,31,32,33,34,35,36,37,38,39,40,41,42,43,44,45,46,47,48,49,50,51,52,53,54,55,56] [3,4,6,9] [5,6,13] rfl ?_
 refine Rf.bu aa 0 10 rfl ?_
 refine Rf.ah (v:=.bool true) (fun X=>bL (by decide) X) rfl ?_
 refine Rf.HY aa 2 0 rfl ?_
 refine Rf.bf ?_
 refine Rf.bu aa 0 10 rfl ?_
 refine Rf.aC 16 (dW (mn u3)) (.t [.a [vI (kd u3),vB (ng u3),.c 16 0,vI (xp u3)],vI 0]) rfl (Pl.en Tryz.func30) (fun α γ w h=>dP 16 (by have h9:=aR w _ w9 (Qn.le (h.r 6 rfl) (by decide) (by decide)) b p lo hi hf 3 (by decide);rw [hu3] at h9;exact h9)) ?_
 refine Rf.bY aa 0 10 rfl ?_
 refine Rf.ah (v:=.bool false) (fun X=>bE (by decide) X) rfl ?_
 refine Rf.ay aa 11 rfl ?_
 refine Rf.aC 17 _ _ rfl (Pl.en Tryz.func15) (fun α γ w h=>aU 17 (ed _ _ u3 (Fv.mk (x:=u3) (h.r 16 rfl)) b p lo hi hf WJ)) ?_
 refine Rf.aV (.bool false) rfl (fun X=>aT _ X) ?_
 refine Rf.ay aa 11 rfl ?_
 refine Rf.aC 18 _ _ rfl (Pl.en Tryz.func16) (fun α γ w h=>aU 18 (bQ _ _ u3 (Fv.mk (x:=u3) (h.r 16 rfl)) b p lo hi hf WJ)) ?_
 refine Rf.aV (.bool false) rfl (fun X=>aT _ X) ?_
 refine Rf.bY aa 2 11 rfl ?_
 refine Rf.ah (v:=.bool true) (fun X=>aM (by decide) X) rfl ?_
 refine Rf.HY aa 1 0 rfl ?_
 refine Rf.nN ?_
 refine Rf.bu aa 0 11 rfl ?_
 refine Rf.ah (v:=.int .i64 4) (bD (a:=3) (b:=1) (by omega)) rfl ?_
 refine Rf.HY aa 0 11 rfl ?_
 refine Rf.eT ?_
 refine Rf.iX ?_
 repeat refine Rf.aO ?_
 refine Rf.aP [6,7,8,9,11,12,13,14,29,30,31,32,33,34,35,36,37,38,39,40,41,42,43,44,45,46,47,48,49,50,51,52,53,54,55,56] [3,4,6,10] [5,6,16] rfl ?_
 refine Rf.bu aa 0 11 rfl ?_
 refine Rf.ah (v:=.bool true) (fun X=>bL (by decide) X) rfl ?_
 refine Rf.HY aa 2 0 rfl ?_
 refine Rf.bf ?_
 refine Rf.bu aa 0 11 rfl ?_
 refine Rf.aC 19 (dW (mn u4)) (.t [.a [vI (kd u4),vB (ng u4),.c 19 0,vI (xp u4)],vI 0]) rfl (Pl.en Tryz.func30) (fun α γ w h=>dP 19 (by have h9:=aR w _ w9 (Qn.le (h.r 6 rfl) (by decide) (by decide)) b p lo hi hf 4 (by decide);rw [DU] at h9;exact h9)) ?_
 refine Rf.bY aa 0 11 rfl ?_
 refine Rf.ah (v:=.bool false) (fun X=>bE (by decide) X) rfl ?_
 refine Rf.ay aa 12 rfl ?_
 refine Rf.aC 20 _ _ rfl (Pl.en Tryz.func15) (fun α γ w h=>aU 20 (ed _ _ u4 (Fv.mk (x:=u4) (h.r 19 rfl)) b p lo hi hf WK)) ?_
 refine Rf.aV (.bool false) rfl (fun X=>aT _ X) ?_
 refine Rf.ay aa 12 rfl ?_
 refine Rf.aC 21 _ _ rfl (Pl.en Tryz.func16) (fun α γ w h=>aU 21 (bQ _ _ u4 (Fv.mk (x:=u4) (h.r 19 rfl)) b p lo hi hf WK)) ?_
 refine Rf.aV (.bool false) rfl (fun X=>aT _ X) ?_
 refine Rf.bY aa 2 12 rfl ?_
 refine Rf.ah (v:=.bool true) (fun X=>aM (by decide) X) rfl ?_
 refine Rf.HY aa 1 0 rfl ?_
 refine Rf.nN ?_
 refine Rf.bu aa 0 12 rfl ?_
 refine Rf.ah (v:=.int .i64 5) (bD (a:=4) (b:=1) (by omega)) rfl ?_
 refine Rf.HY aa 0 12 rfl ?_
 refine Rf.eT ?_
 refine Rf.ru ?_
 repeat refine Rf.aO ?_
 refine Rf.aP [6,7,8,9,11,12,13,14,29,30,31,32,33,34,35,36,37,38,39,40,41,42,43,44,45,46,47,48,49,50,51,52,53,54,55,56] [3,4,6,11] [5,6,19] rfl ?_
 refine Rf.bu aa 0 12 rfl ?_
 refine Rf.ah (v:=.bool false) (fun X=>bM (by decide) X) rfl ?_
 refine Rf.HY aa 1 0 rfl ?_
 refine Rf.og ?_
 refine Rf.HX aa 1 12 rfl ?_
 exact Rf.aI aa (fun _ _ h=>h) rfl rfl (fun α γ w h=>⟨rfl,h.ex⟩)
theorem IE (w:World) (m0:Bool) (vp:Value) (zs0:List Nat) (up:U w vp zs0) (vd:Value) (ds0:List Nat) (ud:U w vd ds0) (r9 p9 l9 h9:Int) (k1:Int) (n1:Bool) (e1:Int) (vH:Value) (jo:List Nat) (yO:U w vH jo) (k2:Int) (n2:Bool) (e2:Int) (vJ:Value) (jN:List Nat) (yP:U w vJ jN) (hxk:∃ n m e,(dx (dw r9) (fu p9) (dY l9) (fD l9 h9) k1 n1 jo e1) = .fin n m e) :
  Calls Tryz.prog 5 #[.agg #[.bool m0,vp,vd],.agg #[.int .i64 r9,.int .i64 p9,.int .i64 l9,.int .i64 h9],.agg #[.int .i64 k1,.bool n1,vH,.int .i64 e1,.int .i64 k2,.bool n2,vJ,.int .i64 e2]] w fun e w'=>e = .returned (.bool true)∧Pl.Ex w w':=by
 obtain ⟨Ap,cp,rfl,-⟩:=U.shape up
 obtain ⟨Ad,cd,rfl,-⟩:=U.shape ud
 obtain ⟨w9,wH⟩:∃ q,fB m0 zs0 ds0=q:=⟨_,rfl⟩
 obtain ⟨b,hb⟩:∃ x,dw r9=x:=⟨_,rfl⟩
 obtain ⟨p,hp⟩:∃ x,fu p9=x:=⟨_,rfl⟩
 obtain ⟨lo,hlo⟩:∃ x,dY l9=x:=⟨_,rfl⟩
 obtain ⟨hi,hhi⟩:∃ x,fD l9 h9=x:=⟨_,rfl⟩
 have hfm:=jM r9 p9 l9 h9
 rw [hb,hp,hlo,hhi] at hfm
 obtain ⟨hf,Fw,Fx,Fy⟩:=hfm
 have f1:=hf.p1
 have f2:=hf.ku
 have f3:=hf.l
 have f4:=hf.l1
 have f5:=hf.h1
 have hb2:=hf.b2
 obtain ⟨Oc,Od,rfl,-⟩:=U.shape yO
 obtain ⟨Oe,Og,rfl,-⟩:=U.shape yP
 obtain ⟨x9,uK⟩:∃ x,dx b p lo hi k1 n1 jo e1=x:=⟨_,rfl⟩
 obtain ⟨y9,ve⟩:∃ x,dx b p lo hi k2 n2 jN e2=x:=⟨_,rfl⟩
 have mU:bO b p lo hi x9:=by rw [← uK];exact iL hf _ _ _ _
 have Fz:bO b p lo hi y9:=by rw [← ve];exact iL hf _ _ _ _
 obtain ⟨n9,m9,q9,rfl⟩:∃ n m e,x9 = .fin n m e:=by subst hb hp hlo hhi uK;exact hxk
 obtain ⟨u0,hu0⟩:∃ x,rd b p lo hi 0 w9=x:=⟨_,rfl⟩
 have WG:bO b p lo hi u0:=by rw [← hu0];exact jS hb2 f1 f3
 obtain ⟨u1,hu1⟩:∃ x,rd b p lo hi 1 w9=x:=⟨_,rfl⟩
 have WH:bO b p lo hi u1:=by rw [← hu1];exact jS hb2 f1 f3
 obtain ⟨u2,hu2⟩:∃ x,rd b p lo hi 2 w9=x:=⟨_,rfl⟩
 have WI:bO b p lo hi u2:=by rw [← hu2];exact jS hb2 f1 f3
 obtain ⟨u3,hu3⟩:∃ x,rd b p lo hi 3 w9=x:=⟨_,rfl⟩
 have WJ:bO b p lo hi u3:=by rw [← hu3];exact jS hb2 f1 f3
 obtain ⟨u4,DU⟩:∃ x,rd b p lo hi 4 w9=x:=⟨_,rfl⟩
 have WK:bO b p lo hi u4:=by rw [← DU];exact jS hb2 f1 f3
 refine Rf.aA (n:=87) [.a [vB m0,.c 0 0,.c 1 0],.a [vI r9,vI p9,vI l9,vI h9],.a [vI k1,vB n1,.c 2 0,vI e1,vI k2,vB n2,.c 3 0,vI e2]] [[.slice Ap (List.length zs0) cp],[.slice Ad (List.length ds0) cd],[.slice Oc (List.length jo) Od],[.slice Oe (List.length jN) Og]] [(0,(eU zs0).S),(1,(eU ds0).S),(2,(eU jo).S),(3,(eU jN).S)] Tryz.func5 rfl (by kernel_rfl) rfl rfl ⟨RS.in up,RS.in ud,RS.in yO,RS.in yP,trivial⟩ ?_
 refine Rf.bu aa 1 0 rfl ?_
 refine Rf.aC 4 _ _ rfl (Pl.en Tryz.func12) (fun α γ w h=>aU 4 (iO _)) ?_
 refine Rf.bY aa 0 3 rfl ?_
 refine Rf.aC 5 (Kh (mn (.fin n9 m9 q9)) (mn y9)) (.t [.a [vI ((b:Nat):Int),vI ((p:Nat):Int),vI lo,vI hi],.a [vI 1,vB n9,.c 5 0,vI q9],.a [vI (kd y9),vB (ng y9),.c 5 1,vI (xp y9)]]) rfl (Pl.en Tryz.func17) (fun α γ w h=>xO 5 (jg w r9 p9 l9 h9 b p lo hi hb hp hlo hhi hf _ _ k1 k2 n1 n2 jo jN e1 e2 (h.r 2 rfl) (h.r 3 rfl) (.fin n9 m9 q9) y9 uK ve)) ?_
 refine Rf.bY aa 0 3 rfl ?_
 refine Rf.aC 6 (pI w9 4 4) (.a [.c 6 0,.c 6 1,.c 6 2]) rfl (Pl.en Tryz.func28) (fun α γ w h=>by have h9:=gP _ _ _ m0 zs0 ds0 (h.r 0 rfl) (h.r 1 rfl);rw [wH] at h9;exact iP 6 h9) ?_
 refine Rf.HY aa 1 6 rfl ?_
 refine Rf.bf ?_
 refine Rf.mP 5 ?_
 refine Rf.iX ?_
 repeat refine Rf.aO ?_
 refine Rf.aP [6,7,8,9,11,12] [3,4,6] [5,6] rfl ?_
 refine Rf.bu aa 0 7 rfl ?_
 refine Rf.ah (v:=.bool true) (fun X=>bL (by decide) X) rfl ?_
 refine Rf.HY aa 2 0 rfl ?_
 refine Rf.bf ?_
 refine Rf.bu aa 0 7 rfl ?_
 refine Rf.aC 7 (dW (mn u0)) (.t [.a [vI (kd u0),vB (ng u0),.c 7 0,vI (xp u0)],vI 0]) rfl (Pl.en Tryz.func30) (fun α γ w h=>dP 7 (by have h9:=aR w _ w9 (Qn.le (h.r 6 rfl) (by decide) (by decide)) b p lo hi hf 0 (by decide);rw [hu0] at h9;exact h9)) ?_
 refine Rf.bY aa 0 7 rfl ?_
 refine Rf.ah (v:=.bool false) (fun X=>bE (by decide) X) rfl ?_
 refine Rf.ay aa 8 rfl ?_
 refine Rf.aC 8 _ _ rfl (Pl.en Tryz.func15) (fun α γ w h=>aU 8 (ed _ _ u0 (Fv.mk (x:=u0) (h.r 7 rfl)) b p lo hi hf WG)) ?_
 refine Rf.aV (.bool false) rfl (fun X=>aT _ X) ?_
 refine Rf.ay aa 8 rfl ?_
 refine Rf.aC 9 _ _ rfl (Pl.en Tryz.func16) (fun α γ w h=>aU 9 (bQ _ _ u0 (Fv.mk (x:=u0) (h.r 7 rfl)) b p lo hi hf WG)) ?_
 refine Rf.aV (.bool false) rfl (fun X=>aT _ X) ?_
 refine Rf.bY aa 2 8 rfl ?_
 refine Rf.ah (v:=.bool false) (fun X=>aK (by decide) X) rfl ?_
 refine Rf.HY aa 2 0 rfl ?_
 refine Rf.aP [6,7,8,9,11,12,13,14,29,30,33,34,35,36,37,38,39,40,41,42,43,44,45,46,47,48,49,50,51,52,53,54,55,56] [3,4,6,7] [5,6,7] rfl ?_
 refine Rf.bu aa 0 8 rfl ?_
 refine Rf.aC 10 (pI (vf b (.fin n9 m9 q9)) 9 9) (.t [.a [.c 10 0,.c 10 1,.c 10 2],vT]) rfl (Pl.en Tryz.func18) (fun α γ w h=>nJ 10 (Calls.mono (gL _ _ (.fin n9 m9 q9) (Fv.mk (x:=(.fin n9 m9 q9)) (h.r 5 rfl).1) b p lo hi hf mU (fun _ h=>nomatch h)) fun e w2 ⟨u,h1,h2,h3⟩=>⟨u,h1,Qn.re h2 (Sz.le (lK (J:=4) hf mU (by omega) (by omega) (by decide) (by decide)).1 (by decide)) (Sn.le (lK (J:=4) hf mU (by omega) (by omega) (by decide) (by decide)).2 (by decide)),h3⟩)) ?_
 refine Rf.bY aa 0 8 rfl ?_
 refine Rf.aC 11 (dW (mn (.fin n9 m9 q9))) (.t [.a [vI 1,vB n9,.c 11 0,vI q9],vI 0]) rfl (Pl.en Tryz.func30) (fun α γ w h=>dP 11 (by have h9:=aR w _ (vf b (.fin n9 m9 q9)) (Qn.le (h.r 10 rfl) (by decide) (by decide)) b p lo hi hf 0 (by decide);rw [tJ hb2 f1 mU] at h9;exact h9)) ?_
 refine Rf.HY aa 0 9 rfl ?_
 refine Rf.aP [6,7,8,9,11,12,13,14,15,16,17,18,29,30,33,34,35,36,37,38,39,40,41,42,43,44,45,46,47,48,49,50,51,52,53,54,55,56,57,58,59,60,61,62,63,64,65,66,67,68,69] [3,4,6,7,8,9] [5,6,7,10,11] rfl ?_
 refine Rf.bu aa 0 10 rfl ?_
 refine Rf.ah (v:=.bool false) (fun X=>aK (by decide) X) rfl ?_
 refine Rf.HY aa 2 0 rfl ?_
 refine Rf.aP [6,7,8,9,11,12,13,14,15,16,17,18,29,30,33,34,35,36,37,38,39,40,41,42,43,44,45,46,47,48,49,50,51,52,53,54,55,56,57,58,59,60,61,62,63,64,65,66,67,68,69,70,71,72] [3,4,6,7,8,9] [5,6,7,10,11] rfl ?_
 refine Rf.bu aa 0 10 rfl ?_
 refine Rf.aV (.bool false) rfl (fun X=>aT _ X) ?_
 refine Rf.ay aa 10 rfl ?_
 refine Rf.ah (v:=.bool false) (fun X=>bE (by decide) X) rfl ?_
 refine Rf.ay aa 10 rfl ?_
 refine Rf.aC 12 _ _ rfl (Pl.en Tryz.func21) (fun α γ w h=>aU 12 (bH w _ _ (.fin n9 m9 q9) (.fin n9 m9 q9) (Fv.mk (x:=(.fin n9 m9 q9)) (h.r 11 rfl)) (Fv.mk (x:=(.fin n9 m9 q9)) (h.r 5 rfl).1) rfl)) ?_
 refine Rf.aV (.bool false) rfl (fun X=>aT _ X) ?_
 refine Rf.HY aa 2 10 rfl ?_
 refine Rf.aZ ?_
 refine Rf.bu aa 0 10 rfl ?_
 refine Rf.ah (v:=.int .i64 1) (bD (a:=0) (b:=1) (by omega)) rfl ?_
 refine Rf.HY aa 0 10 rfl ?_
 refine Rf.eT ?_
 refine Rf.iX ?_
 repeat refine Rf.aO ?_
 refine Rf.aP [6,7,8,9,11,12,13,14,15,16,17,18,29,30,31,32,33,34,35,36,37,38,39,40,41,42,43,44,45,46,47,48,49,50,51,52,53,54,55,56,57,58,59,60,61,62,63,64,65,66,67,68,69,70,71,72,74,75,76,77,78,79,80,81,82,83,84,85] [3,4,6,7,8,9] [5,6,7,10,11] rfl ?_
 refine Rf.bu aa 0 10 rfl ?_
 refine Rf.ah (v:=.bool true) (fun X=>bL (by decide) X) rfl ?_
 refine Rf.HY aa 2 0 rfl ?_
 refine Rf.bf ?_
 refine Rf.bu aa 0 10 rfl ?_
 refine Rf.aC 13 (dW (mn u1)) (.t [.a [vI (kd u1),vB (ng u1),.c 13 0,vI (xp u1)],vI 0]) rfl (Pl.en Tryz.func30) (fun α γ w h=>dP 13 (by have h9:=aR w _ w9 (Qn.le (h.r 6 rfl) (by decide) (by decide)) b p lo hi hf 1 (by decide);rw [hu1] at h9;exact h9)) ?_
 refine Rf.bY aa 0 10 rfl ?_
 refine Rf.ah (v:=.bool false) (fun X=>bE (by decide) X) rfl ?_
 refine Rf.ay aa 11 rfl ?_
 refine Rf.aC 14 _ _ rfl (Pl.en Tryz.func15) (fun α γ w h=>aU 14 (ed _ _ u1 (Fv.mk (x:=u1) (h.r 13 rfl)) b p lo hi hf WH)) ?_
 refine Rf.aV (.bool false) rfl (fun X=>aT _ X) ?_
 refine Rf.ay aa 11 rfl ?_
 refine Rf.aC 15 _ _ rfl (Pl.en Tryz.func16) (fun α γ w h=>aU 15 (bQ _ _ u1 (Fv.mk (x:=u1) (h.r 13 rfl)) b p lo hi hf WH)) ?_
 refine Rf.aV (.bool false) rfl (fun X=>aT _ X) ?_
 refine Rf.bY aa 2 11 rfl ?_
 refine Rf.ah (v:=.bool false) (fun X=>aK (by decide) X) rfl ?_
 refine Rf.HY aa 2 0 rfl ?_
 refine Rf.aP [6,7,8,9,11,12,13,14,15,16,17,18,29,30,31,32,33,34,35,36,37,38,39,40,41,42,43,44,45,46,47,48,49,50,51,52,53,54,55,56,57,58,59,60,61,62,63,64,65,66,67,68,69,70,71,72,74,75,76,77,78,79,80,81,82,83,84,85] [3,4,6,8,9,10] [5,6,10,11,13] rfl ?_
 refine Rf.bu aa 0 11 rfl ?_
 refine Rf.aC 16 (pI (vf b (.fin n9 m9 q9)) 9 9) (.t [.a [.c 16 0,.c 16 1,.c 16 2],vT]) rfl (Pl.en Tryz.func18) (fun α γ w h=>nJ 16 (Calls.mono (gL _ _ (.fin n9 m9 q9) (Fv.mk (x:=(.fin n9 m9 q9)) (h.r 5 rfl).1) b p lo hi hf mU (fun _ h=>nomatch h)) fun e w2 ⟨u,h1,h2,h3⟩=>⟨u,h1,Qn.re h2 (Sz.le (lK (J:=4) hf mU (by omega) (by omega) (by decide) (by decide)).1 (by decide)) (Sn.le (lK (J:=4) hf mU (by omega) (by omega) (by decide) (by decide)).2 (by decide)),h3⟩)) ?_
 refine Rf.bY aa 0 11 rfl ?_
 refine Rf.aC 17 (dW (mn (.fin n9 m9 q9))) (.t [.a [vI 1,vB n9,.c 17 0,vI q9],vI 0]) rfl (Pl.en Tryz.func30) (fun α γ w h=>dP 17 (by have h9:=aR w _ (vf b (.fin n9 m9 q9)) (Qn.le (h.r 16 rfl) (by decide) (by decide)) b p lo hi hf 1 (by decide);rw [tJ hb2 f1 mU] at h9;exact h9)) ?_
 refine Rf.HY aa 0 12 rfl ?_
 refine Rf.aP [6,7,8,9,11,12,13,14,15,16,17,18,29,30,31,32,33,34,35,36,37,38,39,40,41,42,43,44,45,46,47,48,49,50,51,52,53,54,55,56,57,58,59,60,61,62,63,64,65,66,67,68,69,70,71,72,74,75,76,77,78,79,80,81,82,83,84,85] [3,4,6,10,11,12] [5,6,11,13,16,17] rfl ?_
 refine Rf.bu aa 0 13 rfl ?_
 refine Rf.ah (v:=.bool false) (fun X=>aK (by decide) X) rfl ?_
 refine Rf.HY aa 2 0 rfl ?_
 refine Rf.aP [6,7,8,9,11,12,13,14,15,16,17,18,29,30,31,32,33,34,35,36,37,38,39,40,41,42,43,44,45,46,47,48,49,50,51,52,53,54,55,56,57,58,59,60,61,62,63,64,65,66,67,68,69,70,71,72,74,75,76,77,78,79,80,81,82,83,84,85] [3,4,6,10,11,12] [5,6,11,13,16,17] rfl ?_
 refine Rf.bu aa 0 13 rfl ?_
 refine Rf.aV (.bool false) rfl (fun X=>aT _ X) ?_
 refine Rf.ay aa 13 rfl ?_
 refine Rf.ah (v:=.bool false) (fun X=>bE (by decide) X) rfl ?_
 refine Rf.ay aa 13 rfl ?_
 refine Rf.aC 18 _ _ rfl (Pl.en Tryz.func21) (fun α γ w h=>aU 18 (bH w _ _ (.fin n9 m9 q9) (.fin n9 m9 q9) (Fv.mk (x:=(.fin n9 m9 q9)) (h.r 17 rfl)) (Fv.mk (x:=(.fin n9 m9 q9)) (h.r 5 rfl).1) rfl)) ?_
 refine Rf.aV (.bool false) rfl (fun X=>aT _ X) ?_
 refine Rf.HY aa 2 13 rfl ?_
 refine Rf.aZ ?_
 refine Rf.bu aa 0 13 rfl ?_
 refine Rf.ah (v:=.int .i64 2) (bD (a:=1) (b:=1) (by omega)) rfl ?_
 refine Rf.HY aa 0 13 rfl ?_
 refine Rf.eT ?_
 refine Rf.iX ?_
 repeat refine Rf.aO ?_
 refine Rf.aP [6,7,8,9,11,12,13,14,15,16,17,18,29,30,31,32,33,34,35,36,37,38,39,40,41,42,43,44,45,46,47,48,49,50,51,52,53,54,55,56,57,58,59,60,61,62,63,64,65,66,67,68,69,70,71,72,74,75,76,77,78,79,80,81,82,83,84,85] [3,4,6,10,11,12] [5,6,13,16,17] rfl ?_
 refine Rf.bu aa 0 13 rfl ?_
 refine Rf.ah (v:=.bool true) (fun X=>bL (by decide) X) rfl ?_
 refine Rf.HY aa 2 0 rfl ?_
 refine Rf.bf ?_
 refine Rf.bu aa 0 13 rfl ?_
 refine Rf.aC 19 (dW (mn u2)) (.t [.a [vI (kd u2),vB (ng u2),.c 19 0,vI (xp u2)],vI 0]) rfl (Pl.en Tryz.func30) (fun α γ w h=>dP 19 (by have h9:=aR w _ w9 (Qn.le (h.r 6 rfl) (by decide) (by decide)) b p lo hi hf 2 (by decide);rw [hu2] at h9;exact h9)) ?_
 refine Rf.bY aa 0 13 rfl ?_
 refine Rf.ah (v:=.bool false) (fun X=>bE (by decide) X) rfl ?_
 refine Rf.ay aa 14 rfl ?_
 refine Rf.aC 20 _ _ rfl (Pl.en Tryz.func15) (fun α γ w h=>aU 20 (ed _ _ u2 (Fv.mk (x:=u2) (h.r 19 rfl)) b p lo hi hf WI)) ?_
 refine Rf.aV (.bool false) rfl (fun X=>aT _ X) ?_
 refine Rf.ay aa 14 rfl ?_
 refine Rf.aC 21 _ _ rfl (Pl.en Tryz.func16) (fun α γ w h=>aU 21 (bQ _ _ u2 (Fv.mk (x:=u2) (h.r 19 rfl)) b p lo hi hf WI)) ?_
 refine Rf.aV (.bool false) rfl (fun X=>aT _ X) ?_
 refine Rf.bY aa 2 14 rfl ?_
 refine Rf.ah (v:=.bool false) (fun X=>aK (by decide) X) rfl ?_
 refine Rf.HY aa 2 0 rfl ?_
 refine Rf.aP [6,7,8,9,11,12,13,14,15,16,17,18,29,30,31,32,33,34,35,36,37,38,39,40,41,42,43,44,45,46,47,48,49,50,51,52,53,54,55,56,57,58,59,60,61,62,63,64,65,66,67,68,69,70,71,72,74,75,76,77,78,79,80,81,82,83,84,85] [3,4,6,11,12,13] [5,6,16,17,19] rfl ?_
 refine Rf.bu aa 0 14 rfl ?_
 refine Rf.aC 22 (pI (vf b (.fin n9 m9 q9)) 9 9) (.t [.a [.c 22 0,.c 22 1,.c 22 2],vT]) rfl (Pl.en Tryz.func18) (fun α γ w h=>nJ 22 (Calls.mono (gL _ _ (.fin n9 m9 q9) (Fv.mk (x:=(.fin n9 m9 q9)) (h.r 5 rfl).1) b p lo hi hf mU (fun _ h=>nomatch h)) fun e w2 ⟨u,h1,h2,h3⟩=>⟨u,h1,Qn.re h2 (Sz.le (lK (J:=4) hf mU (by omega) (by omega) (by decide) (by decide)).1 (by decide)) (Sn.le (lK (J:=4) hf mU (by omega) (by omega) (by decide) (by decide)).2 (by decide)),h3⟩)) ?_
 refine Rf.bY aa 0 14 rfl ?_
 refine Rf.aC 23 (dW (mn (.fin n9 m9 q9))) (.t [.a [vI 1,vB n9,.c 23 0,vI q9],vI 0]) rfl (Pl.en Tryz.func30) (fun α γ w h=>dP 23 (by have h9:=aR w _ (vf b (.fin n9 m9 q9)) (Qn.le (h.r 22 rfl) (by decide) (by decide)) b p lo hi hf 2 (by decide);rw [tJ hb2 f1 mU] at h9;exact h9)) ?_
 refine Rf.HY aa 0 15 rfl ?_
 refine Rf.aP [6,7,8,9,11,12,13,14,15,16,17,18,29,30,31,32,33,34,35,36,37,38,39,40,41,42,43,44,45,46,47,48,49,50,51,52,53,54,55,56,57,58,59,60,61,62,63,64,65,66,67,68,69,70,71,72,74,75,76,77,78,79,80,81,82,83,84,85] [3,4,6,13,14,15] [5,6,17,19,22,23] rfl ?_
 refine Rf.bu aa 0 16 rfl ?_
 refine Rf.ah (v:=.bool false) (fun X=>aK (by decide) X) rfl ?_
 refine Rf.HY aa 2 0 rfl ?_
 refine Rf.aP [6,7,8,9,11,12,13,14,15,16,17,18,29,30,31,32,33,34,35,36,37,38,39,40,41,42,43,44,45,46,47,48,49,50,51,52,53,54,55,56,57,58,59,60,61,62,63,64,65,66,67,68,69,70,71,72,74,75,76,77,78,79,80,81,82,83,84,85] [3,4,6,13,14,15] [5,6,17,19,22,23] rfl ?_
 refine Rf.bu aa 0 16 rfl ?_
 refine Rf.aV (.bool false) rfl (fun X=>aT _ X) ?_
 refine Rf.ay aa 16 rfl ?_
 refine Rf.ah (v:=.bool false) (fun X=>bE (by decide) X) rfl ?_
 refine Rf.ay aa 16 rfl ?_
 refine Rf.aC 24 _ _ rfl (Pl.en Tryz.func21) (fun α γ w h=>aU 24 (bH w _ _ (.fin n9 m9 q9) (.fin n9 m9 q9) (Fv.mk (x:=(.fin n9 m9 q9)) (h.r 23 rfl)) (Fv.mk (x:=(.fin n9 m9 q9)) (h.r 5 rfl).1) rfl)) ?_
 refine Rf.aV (.bool false) rfl (fun X=>aT _ X) ?_
 refine Rf.HY aa 2 16 rfl ?_
 refine Rf.aZ ?_
 refine Rf.bu aa 0 16 rfl ?_
 refine Rf.ah (v:=.int .i64 3) (bD (a:=2) (b:=1) (by omega)) rfl ?_
 refine Rf.HY aa 0 16 rfl ?_
 refine Rf.eT ?_
 refine Rf.iX ?_
 repeat refine Rf.aO ?_
 refine Rf.aP [6,7,8,9,11,12,13,14,15,16,17,18,29,30,31,32,33,34,35,36,37,38,39,40,41,42,43,44,45,46,47,48,49,50,51,52,53,54,55,56,57,58,59,60,61,62,63,64,65,66,67,68,69,70,71,72,74,75,76,77,78,79,80,81,82,83,84,85] [3,4,6,13,14,15] [5,6,19,22,23] rfl ?_
 refine Rf.bu aa 0 16 rfl ?_
 refine Rf.ah (v:=.bool true) (fun X=>bL (by decide) X) rfl ?_
 refine Rf.HY aa 2 0 rfl ?_
 refine Rf.bf ?_
 refine Rf.bu aa 0 16 rfl ?_
 refine Rf.aC 25 (dW (mn u3)) (.t [.a [vI (kd u3),vB (ng u3),.c 25 0,vI (xp u3)],vI 0]) rfl (Pl.en Tryz.func30) (fun α γ w h=>dP 25 (by have h9:=aR w _ w9 (Qn.le (h.r 6 rfl) (by decide) (by decide)) b p lo hi hf 3 (by decide);rw [hu3] at h9;exact h9)) ?_
 refine Rf.bY aa 0 16 rfl ?_
 refine Rf.ah (v:=.bool false) (fun X=>bE (by decide) X) rfl ?_
 refine Rf.ay aa 17 rfl ?_
 refine Rf.aC 26 _ _ rfl (Pl.en Tryz.func15) (fun α γ w h=>aU 26 (ed _ _ u3 (Fv.mk (x:=u3) (h.r 25 rfl)) b p lo hi hf WJ)) ?_
 refine Rf.aV (.bool false) rfl (fun X=>aT _ X) ?_
 refine Rf.ay aa 17 rfl ?_
 refine Rf.aC 27 _ _ rfl (Pl.en Tryz.func16) (fun α γ w h=>aU 27 (bQ _ _ u3 (Fv.mk (x:=u3) (h.r 25 rfl)) b p lo hi hf WJ)) ?_
 refine Rf.aV (.bool false) rfl (fun X=>aT _ X) ?_
 refine Rf.bY aa 2 17 rfl ?_
 refine Rf.ah (v:=.bool false) (fun X=>aK (by decide) X) rfl ?_
 refine Rf.HY aa 2 0 rfl ?_
 refine Rf.aP [6,7,8,9,11,12,13,14,15,16,17,18,29,30,31,32,33,34,35,36,37,38,39,40,41,42,43,44,45,46,47,48,49,50,51,52,53,54,55,56,57,58,59,60,61,62,63,64,65,66,67,68,69,70,71,72,74,75,76,77,78,79,80,81,82,83,84,85] [3,4,6,14,15,16] [5,6,22,23,25] rfl ?_
 refine Rf.bu aa 0 17 rfl ?_
 refine Rf.aC 28 (pI (vf b (.fin n9 m9 q9)) 9 9) (.t [.a [.c 28 0,.c 28 1,.c 28 2],vT]) rfl (Pl.en Tryz.func18) (fun α γ w h=>nJ 28 (Calls.mono (gL _ _ (.fin n9 m9 q9) (Fv.mk (x:=(.fin n9 m9 q9)) (h.r 5 rfl).1) b p lo hi hf mU (fun _ h=>nomatch h)) fun e w2 ⟨u,h1,h2,h3⟩=>⟨u,h1,Qn.re h2 (Sz.le (lK (J:=4) hf mU (by omega) (by omega) (by decide) (by decide)).1 (by decide)) (Sn.le (lK (J:=4) hf mU (by omega) (by omega) (by decide) (by decide)).2 (by decide)),h3⟩)) ?_
 refine Rf.bY aa 0 17 rfl ?_
 refine Rf.aC 29 (dW (mn (.fin n9 m9 q9))) (.t [.a [vI 1,vB n9,.c 29 0,vI q9],vI 0]) rfl (Pl.en Tryz.func30) (fun α γ w h=>dP 29 (by have h9:=aR w _ (vf b (.fin n9 m9 q9)) (Qn.le (h.r 28 rfl) (by decide) (by decide)) b p lo hi hf 3 (by decide);rw [tJ hb2 f1 mU] at h9;exact h9)) ?_
 refine Rf.HY aa 0 18 rfl ?_
 refine Rf.aP [6,7,8,9,11,12,13,14,15,16,17,18,29,30,31,32,33,34,35,36,37,38,39,40,41,42,43,44,45,46,47,48,49,50,51,52,53,54,55,56,57,58,59,60,61,62,63,64,65,66,67,68,69,70,71,72,74,75,76,77,78,79,80,81,82,83,84,85] [3,4,6,16,17,18] [5,6,23,25,28,29] rfl ?_
 refine Rf.bu aa 0 19 rfl ?_
 refine Rf.ah (v:=.bool false) (fun X=>aK (by decide) X) rfl ?_
 refine Rf.HY aa 2 0 rfl ?_
 refine Rf.aP [6,7,8,9,11,12,13,14,15,16,17,18,29,30,31,32,33,34,35,36,37,38,39,40,41,42,43,44,45,46,47,48,49,50,51,52,53,54,55,56,57,58,59,60,61,62,63,64,65,66,67,68,69,70,71,72,74,75,76,77,78,79,80,81,82,83,84,85] [3,4,6,16,17,18] [5,6,23,25,28,29] rfl ?_
 refine Rf.bu aa 0 19 rfl ?_
 refine Rf.aV (.bool false) rfl (fun X=>aT _ X) ?_
 refine Rf.ay aa 19 rfl ?_
 refine Rf.ah (v:=.bool false) (fun X=>bE (by decide) X) rfl ?_
 refine Rf.ay aa 19 rfl ?_
 refine Rf.aC 30 _ _ rfl (Pl.en Tryz.func21) (fun α γ w h=>aU 30 (bH w _ _ (.fin n9 m9 q9) (.fin n9 m9 q9) (Fv.mk (x:=(.fin n9 m9 q9)) (h.r 29 rfl)) (Fv.mk (x:=(.fin n9 m9 q9)) (h.r 5 rfl).1) rfl)) ?_
 refine Rf.aV (.bool false) rfl (fun X=>aT _ X) ?_
 refine Rf.HY aa 2 19 rfl ?_
 refine Rf.aZ ?_
 refine Rf.bu aa 0 19 rfl ?_
 refine Rf.ah (v:=.int .i64 4) (bD (a:=3) (b:=1) (by omega)) rfl ?_
 refine Rf.HY aa 0 19 rfl ?_
 refine Rf.eT ?_
 refine Rf.iX ?_
 repeat refine Rf.aO ?_
 refine Rf.aP [6,7,8,9,11,12,13,14,15,16,17,18,29,30,31,32,33,34,35,36,37,38,39,40,41,42,43,44,45,46,47,48,49,50,51,52,53,54,55,56,57,58,59,60,61,62,63,64,65,66,67,68,69,70,71,72,74,75,76,77,78,79,80,81,82,83,84,85] [3,4,6,16,17,18] [5,6,25,28,29] rfl ?_
 refine Rf.bu aa 0 19 rfl ?_
 refine Rf.ah (v:=.bool true) (fun X=>bL (by decide) X) rfl ?_
 refine Rf.HY aa 2 0 rfl ?_
 refine Rf.bf ?_
 refine Rf.bu aa 0 19 rfl ?_
 refine Rf.aC 31 (dW (mn u4)) (.t [.a [vI (kd u4),vB (ng u4),.c 31 0,vI (xp u4)],vI 0]) rfl (Pl.en Tryz.func30) (fun α γ w h=>dP 31 (by have h9:=aR w _ w9 (Qn.le (h.r 6 rfl) (by decide) (by decide)) b p lo hi hf 4 (by decide);rw [DU] at h9;exact h9)) ?_
 refine Rf.bY aa 0 19 rfl ?_
 refine Rf.ah (v:=.bool false) (fun X=>bE (by decide) X) rfl ?_
 refine Rf.ay aa 20 rfl ?_
 refine Rf.aC 32 _ _ rfl (Pl.en Tryz.func15) (fun α γ w h=>aU 32 (ed _ _ u4 (Fv.mk (x:=u4) (h.r 31 rfl)) b p lo hi hf WK)) ?_
 refine Rf.aV (.bool false) rfl (fun X=>aT _ X) ?_
 refine Rf.ay aa 20 rfl ?_
 refine Rf.aC 33 _ _ rfl (Pl.en Tryz.func16) (fun α γ w h=>aU 33 (bQ _ _ u4 (Fv.mk (x:=u4) (h.r 31 rfl)) b p lo hi hf WK)) ?_
 refine Rf.aV (.bool false) rfl (fun X=>aT _ X) ?_
 refine Rf.bY aa 2 20 rfl ?_
 refine Rf.ah (v:=.bool false) (fun X=>aK (by decide) X) rfl ?_
 refine Rf.HY aa 2 0 rfl ?_
 refine Rf.aP [6,7,8,9,11,12,13,14,15,16,17,18,29,30,31,32,33,34,35,36,37,38,39,40,41,42,43,44,45,46,47,48,49,50,51,52,53,54,55,56,57,58,59,60,61,62,63,64,65,66,67,68,69,70,71,72,74,75,76,77,78,79,80,81,82,83,84,85] [3,4,6,17,18,19] [5,6,28,29,31] rfl ?_
 refine Rf.bu aa 0 20 rfl ?_
 refine Rf.aC 34 (pI (vf b (.fin n9 m9 q9)) 9 9) (.t [.a [.c 34 0,.c 34 1,.c 34 2],vT]) rfl (Pl.en Tryz.func18) (fun α γ w h=>nJ 34 (Calls.mono (gL _ _ (.fin n9 m9 q9) (Fv.mk (x:=(.fin n9 m9 q9)) (h.r 5 rfl).1) b p lo hi hf mU (fun _ h=>nomatch h)) fun e w2 ⟨u,h1,h2,h3⟩=>⟨u,h1,Qn.re h2 (Sz.le (lK (J:=4) hf mU (by omega) (by omega) (by decide) (by decide)).1 (by decide)) (Sn.le (lK (J:=4) hf mU (by omega) (by omega) (by decide) (by decide)).2 (by decide)),h3⟩)) ?_
 refine Rf.bY aa 0 20 rfl ?_
 refine Rf.aC 35 (dW (mn (.fin n9 m9 q9))) (.t [.a [vI 1,vB n9,.c 35 0,vI q9],vI 0]) rfl (Pl.en Tryz.func30) (fun α γ w h=>dP 35 (by have h9:=aR w _ (vf b (.fin n9 m9 q9)) (Qn.le (h.r 34 rfl) (by decide) (by decide)) b p lo hi hf 4 (by decide);rw [tJ hb2 f1 mU] at h9;exact h9)) ?_
 refine Rf.HY aa 0 21 rfl ?_
 refine Rf.aP [6,7,8,9,11,12,13,14,15,16,17,18,29,30,31,32,33,34,35,36,37,38,39,40,41,42,43,44,45,46,47,48,49,50,51,52,53,54,55,56,57,58,59,60,61,62,63,64,65,66,67,68,69,70,71,72,74,75,76,77,78,79,80,81,82,83,84,85] [3,4,6,19,20,21] [5,6,29,31,34,35] rfl ?_
 refine Rf.bu aa 0 22 rfl ?_
 refine Rf.ah (v:=.bool false) (fun X=>aK (by decide) X) rfl ?_
 refine Rf.HY aa 2 0 rfl ?_
 refine Rf.aP [6,7,8,9,11,12,13,14,15,16,17,18,29,30,31,32,33,34,35,36,37,38,39,40,41,42,43,44,45,46,47,48,49,50,51,52,53,54,55,56,57,58,59,60,61,62,63,64,65,66,67,68,69,70,71,72,74,75,76,77,78,79,80,81,82,83,84,85] [3,4,6,19,20,21] [5,6,29,31,34,35] rfl ?_
 refine Rf.bu aa 0 22 rfl ?_
 refine Rf.aV (.bool false) rfl (fun X=>aT _ X) ?_
 refine Rf.ay aa 22 rfl ?_
 refine Rf.ah (v:=.bool false) (fun X=>bE (by decide) X) rfl ?_
 refine Rf.ay aa 22 rfl ?_
 refine Rf.aC 36 _ _ rfl (Pl.en Tryz.func21) (fun α γ w h=>aU 36 (bH w _ _ (.fin n9 m9 q9) (.fin n9 m9 q9) (Fv.mk (x:=(.fin n9 m9 q9)) (h.r 35 rfl)) (Fv.mk (x:=(.fin n9 m9 q9)) (h.r 5 rfl).1) rfl)) ?_
 refine Rf.aV (.bool false) rfl (fun X=>aT _ X) ?_
 refine Rf.HY aa 2 22 rfl ?_
 refine Rf.aZ ?_
 refine Rf.bu aa 0 22 rfl ?_
 refine Rf.ah (v:=.int .i64 5) (bD (a:=4) (b:=1) (by omega)) rfl ?_
 refine Rf.HY aa 0 22 rfl ?_
 refine Rf.eT ?_
 refine Rf.ru ?_
 repeat refine Rf.aO ?_
 refine Rf.aP [6,7,8,9,11,12,13,14,15,16,17,18,29,30,31,32,33,34,35,36,37,38,39,40,41,42,43,44,45,46,47,48,49,50,51,52,53,54,55,56,57,58,59,60,61,62,63,64,65,66,67,68,69,70,71,72,74,75,76,77,78,79,80,81,82,83,84,85] [3,4,6,19,20,21] [5,6,31,34,35] rfl ?_
 refine Rf.bu aa 0 22 rfl ?_
 refine Rf.ah (v:=.bool false) (fun X=>bM (by decide) X) rfl ?_
 refine Rf.HY aa 1 0 rfl ?_
 refine Rf.og ?_
 refine Rf.HX aa 1 22 rfl ?_
 exact Rf.aI aa (fun _ _ h=>h) rfl rfl (fun α γ w h=>⟨rfl,h.ex⟩)
theorem Ct (w:World) (m0:Bool) (vp:Value) (zs0:List Nat) (up:U w vp zs0) (vd:Value) (ds0:List Nat) (ud:U w vd ds0) (r9 p9 l9 h9:Int) (k1:Int) (n1:Bool) (e1:Int) (vH:Value) (jo:List Nat) (yO:U w vH jo) (k2:Int) (n2:Bool) (e2:Int) (vJ:Value) (jN:List Nat) (yP:U w vJ jN) :
  Calls Tryz.prog 5 #[.agg #[.bool m0,vp,vd],.agg #[.int .i64 r9,.int .i64 p9,.int .i64 l9,.int .i64 h9],.agg #[.int .i64 k1,.bool n1,vH,.int .i64 e1,.int .i64 k2,.bool n2,vJ,.int .i64 e2]] w fun e w'=>e = .returned (.bool true)∧Pl.Ex w w':=by
 have hk:∀ x:Fl,(∃ n,x = .zero n)∨(∃ n,x = .inf n)∨(∃ n m e,x = .fin n m e):=fun x=>by cases x with | zero n=>exact .inl ⟨n,rfl⟩ | inf n=>exact .inr (.inl ⟨n,rfl⟩) | fin n m e=>exact .inr (.inr ⟨n,m,e,rfl⟩)
 rcases hk (dx (dw r9) (fu p9) (dY l9) (fD l9 h9) k1 n1 jo e1) with h | h | h
 · exact IB w m0 vp zs0 up vd ds0 ud r9 p9 l9 h9 k1 n1 e1 vH jo yO k2 n2 e2 vJ jN yP h
 · exact IC w m0 vp zs0 up vd ds0 ud r9 p9 l9 h9 k1 n1 e1 vH jo yO k2 n2 e2 vJ jN yP h
 · exact IE w m0 vp zs0 up vd ds0 ud r9 p9 l9 h9 k1 n1 e1 vH jo yO k2 n2 e2 vJ jN yP h
end Go.Proofs.YtgcieamfidoaoaaGreatDoor
namespace Go.Proofs.YtgcieamfidoaoaaGreatDoor
open Go.ChangeShapes Go.WideShapes Go.ChangeAt Go.RowKit
set_option maxRecDepth 100000
theorem zm (os:Os) (started:os.Started) (H:Type) (enc:TypeId × Value→H) :
  ReturnsInHanded {} Tryz.checked os 5 .any (fun w args=>(Rows.formatOwnSpec.pre enc Tryz.prog Tryz.f5 [] false w args∧laidMetH Tryz.prog jY w)∧sizedMet enc Tryz.prog Tryz.f5 (OpenSpec.ofChange Rows.formatOwnSpec) false w args)
   (Rows.formatOwnSpec.post enc Tryz.prog Tryz.f5 false true false false):=by
 refine returnsInHanded_of_change_and (C:=Tryz.checked) (X:=fun w _=>laidMetH Tryz.prog jY w) (fun _ _ _ hh h=>h.of_heap hh) own started (by kernel_rfl) Tryz.func5
  (ChangeSpec.witness_shaped (enc:=enc) (C:=Tryz.checked) (os:=os) (X:=fun w _=>laidMetH Tryz.prog jY w) false (World.doorLaid Tryz.prog 400 os) #[.agg #[.bool false,.slice none 0 0,.slice none 0 0],.agg #[.int .i64 0,.int .i64 0,.int .i64 0,.int .i64 0],.agg #[.int .i64 0,.bool false,.slice none 0 0,.int .i64 0,.int .i64 0,.bool false,.slice none 0 0,.int .i64 0]] 8 rfl (World.shaped_of_RefB (by kernel_rfl) (by kernel_rfl)) (by kernel_rfl) (by kernel_rfl) (by kernel_rfl) (l5 os _)) ?_
 intro W base args ds gs before hval0 hW _ _ hL _
 have hval:∀ (j:Nat) t v,Tryz.f5.params[j]?=some t→args[j]?=some v→Value.okWide Tryz.prog W .any base t v:=hval0
 have hW':=hW
 obtain ⟨p,q,JR,hV,rfl,hfz,hnd⟩:=hW
 have hA:DataW.TrodAll enc Tryz.prog W 0 (fun _=>true) true Tryz.f5.params.toList args.toList ds p:=JR
 rw [Tryz.params5] at hA hval
 clear JR hval0
 obtain ⟨v0,vs0,d0,ds0,p0,q0,FB,rfl,rfl,h0,r0⟩:=trodAll_cons hA
 obtain ⟨v1,vs1,d1,ds1,p1,q1,rF,rfl,rfl,h1,r1⟩:=trodAll_cons r0
 obtain ⟨v2,vs2,d2,UX,p2,q2,wI,rfl,rfl,h2,r2⟩:=trodAll_cons r1
 obtain ⟨hn1,rfl,rfl⟩:=trodAll_nil r2
 subst hn1
 subst wI
 subst rF
 obtain rfl:args=#[v0,v1,v2]:=by cases args;simp_all
 obtain ⟨rfl,rfl⟩:=trodVars_none hV
 obtain ⟨s0,A0,c0,x0,D0,b0,y0,hv0,u0,t0⟩:=Co (hval 0 36 v0 rfl rfl) h0
 subst hv0
 obtain ⟨a1,YG,l1,g1,hv1⟩:=qA (hval 1 23 v1 rfl rfl) h1
 subst hv1
 obtain ⟨k2,n2,A2,c2,x2,e2,k2b,n2b,A2b,c2b,x2b,e2b,hv2,u2,u2b⟩:=Cg (hval 2 27 v2 rfl rfl) h2
 subst hv2
 refine (Ct W s0 _ x0 u0 _ y0 t0 a1 YG l1 g1 k2 n2 e2 _ x2 u2 k2b n2b e2b _ x2b u2b).mono fun e W' ⟨he,hB⟩=>?_
 subst he
 exact ⟨_,rfl,l6 hW' rfl (by rw [Tryz.params5];decide +kernel) rfl rfl rfl rfl hB⟩
theorem Cu:Rows.FormatOwnSaid :=
 OpenClaim.holds_of_wide 5 Tryz.f5 rfl rfl rfl rfl rfl rfl rfl ⟨rfl,rfl,rfl,rfl,rfl⟩ rfl rfl rfl rfl rfl (by kernel_rfl) Tryz.func5 (by kernel_rfl)
  (of_decide_eq_true (by kernel_rfl)) (by unfold Func.isWrapper;first | (rw [if_pos (by decide +kernel)];kernel_rfl) | (rw [if_neg (by decide +kernel)];exact ⟨rfl,rfl⟩))
  (fun os started H enc _=>zm os started H enc)
theorem formatOwn_holds:Rows.FormatOwnCardSaid :=
 Claim7.holds_tied_plain_at .later [] [.wider] true Rows.formatOwnCard.stood.harness false
  Cu (fun _ h=>by cases h) (by kernel_rfl) (fun _ h=>by cases h) formatOwn_row_tie rfl ⟨rfl,rfl⟩ (by kernel_rfl) rfl
  (fun f fn hf hfn=>by
   obtain rfl:f = 5 := Option.some.inj ((show Tryz.prog.funcNamed "ziggurat/zigguratlaw22.FormatOwn" = some 5 by kernel_rfl).symm.trans hf) |>.symm
   obtain rfl:fn=Tryz.f5 := (Option.some.inj (Tryz.func5.symm.trans hfn)).symm
   exact ⟨by kernel_rfl,fun j t ht=>by
    rw [Tryz.params5] at ht
    have hm:t∈[36,23,27]:=by simpa using Array.mem_of_getElem? ht
    have hall:([36,23,27].all fun u=>!Tryz.prog.wantsStandIn u)=true:=by kernel_rfl
    exact (show Tryz.prog.wantsStandIn t=false by simpa using List.all_eq_true.1 hall t hm)⟩)
  (by kernel_rfl)
end Go.Proofs.YtgcieamfidoaoaaGreatDoor
