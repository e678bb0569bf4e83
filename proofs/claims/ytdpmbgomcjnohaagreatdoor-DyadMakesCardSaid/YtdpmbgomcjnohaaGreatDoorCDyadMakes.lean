/- DyadMakes, and what it leans on beyond the base. -/
import Derived.Test.YtdpmbgomcjnohaaGreatDoorBaa
import Derived.Test.YtdpmbgomcjnohaaGreatDoorBab
import Derived.Test.YtdpmbgomcjnohaaGreatDoorBag
import Derived.Test.YtdpmbgomcjnohaaGreatDoorBad
import Derived.Test.YtdpmbgomcjnohaaGreatDoorBaj
import Derived.Test.YtdpmbgomcjnohaaGreatDoorBai
import Derived.Test.YtdpmbgomcjnohaaGreatDoorBam
import Derived.Test.YtdpmbgomcjnohaaGreatDoorBap
import Derived.Test.YtdpmbgomcjnohaaGreatDoorBaq
import Derived.Test.YtdpmbgomcjnohaaGreatDoorBas
import Derived.Test.YtdpmbgomcjnohaaGreatDoorBar
import Derived.Test.YtdpmbgomcjnohaaGreatDoorBat
import Derived.Test.YtdpmbgomcjnohaaGreatDoorBav
import Derived.Test.YtdpmbgomcjnohaaGreatDoorBau
import Derived.Test.YtdpmbgomcjnohaaGreatDoorBbc
import Derived.Test.YtdpmbgomcjnohaaGreatDoorBbe
import Derived.Deep.MidRow
import Derived.Deep.WholeRow
import Derived.Laws.CopyOwn
import Derived.WalkKit
import Derived.SevenTiedAt
import Derived.LaidMore
import Derived.Stop.Joined
import Derived.JoinedOf
import Derived.JoinedAt
import Derived.Lib.SmallJoins
import Derived.Deep.RegionHeld3
import Derived.Scope
import Derived.Lib.SlTrimSet
import Derived.Lib.Bytealg
import Derived.Laws.Concat
import Derived.Lay
import Derived.LaidOnce

namespace Go.Proofs.YtdpmbgomcjnohaaGreatDoor.Pl
open Go
set_option linter.all false
set_option maxRecDepth 100000
set_option maxHeartbeats 8000000
/-! A function without loops, walked with its frame as a list of what is known. -/
section
variable {P:Program} {Q:Exit→Act→World→Prop} {n:Nat} {ds:List Deferred} {cs:List Code} {l:List (Nat × Value)} {w:World} {x y:Code}
theorem aW {L:List Oper} {S:World→Prop} {f M:Nat} {Q:Exit→Act→World→Prop} (l':List (Nat × Value)) (hl:EB l l') (h:G P L S Q n ds f M l' w):G P L S Q n ds f M l w:=fun a listed ha hL hS=>h a listed (ha.less (rJ hl)) hL hS
theorem fP {L:List Oper} {S:World→Prop} {g M:Nat} {Q:Exit→Act→World→Prop} (f e:Nat) (R:List (Nat × Value)→World→Prop) (h1:∀ l' w',R l' w'→G P L S Q n ds f e l' w') (h2:(∀ l' w',R l' w'→G P L S Q n ds f e l' w')→G P L S Q n ds g M l w):G P L S Q n ds g M l w:=h2 h1
open Classical in
end
section
variable {P:Program} {L:List Oper} {S:World→Prop} {K:List (Nat × Value)→World→Prop} {k:Bool} {i m d:Nat} {o:Oper} {r:List (Bool × Nat × Nat)} {l:List (Nat × Value)} {w w':World} {v:Value}
end
end Go.Proofs.YtdpmbgomcjnohaaGreatDoor.Pl
namespace Go.Proofs.YtdpmbgomcjnohaaGreatDoor.Pl
open Go
set_option linter.all false
set_option maxRecDepth 100000
set_option maxHeartbeats 8000000
/-! Steps for any program: numbers, slices, memory. -/
section
variable {P:Program} {T:TypeId} {x y:Operand} {k k':IntKind} {a b c:Int} {v:Bool}
theorem wD (h0:b≠0) (h:a.tmod b=c) (X:World):Bn P .rem T x y (.int k a) (.int k b) X = .ok (.int k c) X:=by
 subst h;simp [Bn,eqGuard,binOp,Op.intDiv,h0]
theorem CZ (h:decide (a≤b)=v) (X:World):Bn P .leq T x y (.int k a) (.int k b) X = .ok (.bool v) X:=by
 subst h;simp [Bn,eqGuard,binOp,Op.intCmp]
end
section
variable {P:Program} {T:TypeId} {x y:Operand} {a b c:Nat}
end
/-! Operations whose value follows from what is known alone. -/
section
variable {P:Program} {L:List Oper} {S:World→Prop} {K:List (Nat × Value)→World→Prop} {k:Bool} {i m d:Nat} {o:Oper} {r:List (Bool × Nat × Nat)} {l:List (Nat × Value)} {w w':World} {v:Value}
end
end Go.Proofs.YtdpmbgomcjnohaaGreatDoor.Pl
namespace Go.Proofs.YtdpmbgomcjnohaaGreatDoor
open Go.ChangeShapes Go.WideShapes Go.ChangeAt Go.RowKit
set_option linter.all false
set_option maxRecDepth 100000
set_option maxHeartbeats 8000000
theorem laidOut:laidOutB Tryz.prog=true:=by kernel_rfl
theorem rY:Tryz.prog.cellsOf 67 = 1:=by kernel_rfl
theorem gZ {H:Type} {enc:TypeId × Value→H} {W W':World} {sp:Nat→Bool} (hB:Ext W W'):∀ {ts:List TypeId} {vs:List Value} {ds:List (DataW H)} {ps:List MemPlace},
  (∀ t∈ts,Tryz.prog.readableRec t=true∧t<Tryz.prog.types.size)→DataW.TrodAll enc Tryz.prog W 0 (fun _=>true) true ts vs ds ps→(∀ p∈ps,p.block<W.heap.size)→(∀ p∈ps,sp p.block=true)→DataW.TrodAll enc Tryz.prog W' 0 sp true ts vs ds ps
 | [],[],[],_,_,h,_,_=>h
 | t::_,_::_,_::_,_,hT,⟨p,q,h1,h2,e⟩,hlt,hs=>⟨p,q,
  WideElems.Trod_stays laidOut (hT t (List.mem_cons_self ..)).1 (hT t (List.mem_cons_self ..)).2 h1 (fun x hx=>Below.same hB (hlt x (by rw [e];exact List.mem_append_left _ hx))) (fun x hx=>hs x (by rw [e];exact List.mem_append_left _ hx)),
  gZ hB (fun t ht=>hT t (List.mem_cons_of_mem _ ht)) h2 (fun x hx=>hlt x (by rw [e];exact List.mem_append_right _ hx)) (fun x hx=>hs x (by rw [e];exact List.mem_append_right _ hx)),e⟩
theorem qC {H:Type} {enc:TypeId × Value→H} {f:Func} {s:ChangeSpec} {apart fresh handsOn again:Bool} {W W':World} {args:Array Value} {ds gs:List (DataW H)} {before:List MemPlace}
  (hW:DataW.Whole enc Tryz.prog f.params.toList s.vars apart W args.toList ds gs before) (hv:s.vars=[]) (hT:∀ t∈f.params.toList,Tryz.prog.readableRec t=true∧t<Tryz.prog.types.size)
  (hres:f.resultTypes=#[4]) (hfn:(s.fn H (ds++gs)).results=[.lit (.bool true)]) (hfa:(s.fn H (ds++gs)).args=ds) (Qr:(s.fn H (ds++gs)).vars=[]) (hB:Ext W W') :
  s.post enc Tryz.prog f apart fresh handsOn again W args (.bool true) W':=by
 have hlt:∀ p∈before,p.block<W.heap.size:=fun p hp=>hW.lt p hp
 have hold:∀ p∈before,(fun b=>decide (b<W.heap.size)) p.block=true:=fun p hp=>by simpa using hlt p hp
 have hres':∀ (b:Nat) (sp:Nat→Bool) (hd:Bool),DataW.TrodAll enc Tryz.prog W' b sp hd f.resultTypes.toList ((Value.bool true).resultList f.resultTypes.size) (s.fn H (ds++gs)).results []:=by
  intro b sp hd
  rw [hres,hfn]
  exact trodAll_mk1 (shut_bool Tryz.underlying4 _)
 have hW2:=hW
 obtain ⟨p,q,hA,hV,hpq,hz,hn⟩:=hW
 rw [hv] at hV
 obtain ⟨_,rfl⟩:=trodVars_none hV
 rw [List.append_nil] at hpq
 subst hpq
 have hargs:∀ sp:Nat→Bool,(∀ p'∈before,sp p'.block=true)→DataW.TrodAll enc Tryz.prog W' 0 sp true f.params.toList args.toList (s.fn H (ds++gs)).args before:=fun sp hs=>by
  rw [hfa];exact gZ hB hT hA hlt hs
 have hvars:∀ sp:Nat→Bool,DataW.TrodVars enc Tryz.prog W' sp s.vars (s.fn H (ds++gs)).vars []:=fun sp=>by rw [hv,Qr];exact rfl
 refine ⟨ds,gs,before,[],before,[],hW2,hres' _ _ _,hargs _ hold,hvars _,World.keptBut_mono (fun p hp=>⟨hp,?_⟩) (Below.frame hB (·∈before)),fun _=>?_⟩
 · simpa using hp
 · refine ⟨ok_one hres rfl (okWide_bool_mk Tryz.underlying4 _),_,_,([]++before)++[],⟨[]++before,[],trodAll_append (hargs _ (fun _ _=>rfl)) (hres' _ _ _),hvars _,rfl,?_,?_⟩,?_⟩
   · intro b off hp
     have hin:MemPlace.cell b off∈before:=by simpa using hp
     rw [Below.frozen hB (hlt _ hin)]
     exact hz b off hin
   · intro ha
     have:=hn ha
     simpa using this
   · intro p hp _
     simpa using hp
end Go.Proofs.YtdpmbgomcjnohaaGreatDoor
namespace Go.Proofs.YtdpmbgomcjnohaaGreatDoor
open Go.ChangeShapes Go.WideShapes Go.ChangeAt Go.RowKit
set_option linter.all false
set_option maxRecDepth 100000
set_option maxHeartbeats 8000000
theorem kJ {H:Type} {enc:TypeId × Value→H} {W:World} {fuel:Nat} {v:Value} {y:DataW H × List MemPlace} (hf:DataW.trod enc Tryz.prog W 0 (fun _=>true) true fuel 22 [v]=some y) :
  ∃ xs:List Nat,U W v xs:=by
 rcases open_ints Tryz.underlying22 Tryz.underlying67 rY hf with ⟨hcs,hx⟩ | ⟨a,len,cap',zs,hcs,_,hl,hm,hz,hx,hcell,hwz⟩
 · simp at hcs
   subst hcs
   exact ⟨[],U.AU _ _ _⟩
 · simp at hcs
   subst hcs
   simp only [if_true] at hz
   have hlen:((zs.take len).map Int.toNat).length=len:=by simp;omega
   have hb:∀ z∈zs,0≤z∧z<4294967296:=fun z hzz=>by have:=bounds_u32 (hwz z hzz);omega
   refine ⟨(zs.take len).map Int.toNat,some a,cap',by rw [hlen],⟨by rw [hlen];exact hl,by rw [hlen];unfold maxLen at hm;omega⟩,?_,fun h0=>⟨a,rfl,?_,fun j hj=>?_⟩⟩
   · intro x hx'
     obtain ⟨z,hz1,rfl⟩:=List.mem_map.1 hx'
     have:=hb z (List.mem_of_mem_take hz1)
     omega
   · rw [hlen] at h0
     have hc:=hcell 0 (by omega)
     rw [lX] at hc
     unfold World.cell? at hc
     rcases Nat.lt_or_ge a.block W.heap.size with h | h
     · exact h
     · rw [Array.getElem?_eq_none h] at hc;cases hc
   · rw [hlen] at hj
     have hjz:j<zs.length:=by omega
     have e:lb ((zs.take len).map Int.toNat) j=(zs.getD j 0).toNat:=by
      simp [lb,hj,hjz]
     rw [hcell j hjz,e]
     have hmem:zs.getD j 0∈zs:=by simp [hjz]
     have:=hb _ hmem
     rw [show (((zs.getD j 0).toNat:Nat):Int)=zs.getD j 0 by omega]
end Go.Proofs.YtdpmbgomcjnohaaGreatDoor
namespace Go.Proofs.YtdpmbgomcjnohaaGreatDoor
open Go.RowKit
set_option linter.all false
set_option maxRecDepth 100000
set_option maxHeartbeats 8000000
def gN (xs:List Nat) (k:Nat):Nat:=val (xs.take k)
theorem kW (xs:List Nat) (k:Nat) (hx:∀ x∈xs,x<4294967296):(limbs (gN xs k)).length≤k:=by
 apply lJ
 have:=wE (xs.take k) (fun x h=>hx x (List.mem_of_mem_take h))
 refine Nat.lt_of_lt_of_le this (Nat.pow_le_pow_right (by decide) ?_)
 rw [List.length_take];omega
theorem ni (w:World) (v:Value) (xs:List Nat) (k:Int) (hk0:0≤k) (hk1:k≤1000000000) (h:U w v xs) :
  Calls Tryz.prog 63 #[v,.int .i64 k] w fun e w'=>(∃ u,e = .returned u∧Un w' u (gN xs k.toNat))∧Below w.heap.size w w':=by
 have h':=h
 obtain ⟨A,c,rfl,⟨hc,hm⟩,hx,hr⟩:=h
 clear hr
 by_cases hl:(xs.length:Int)≤k
 · have hu:=fG w _ xs h' (by omega)
   have HT:Hid (xs.take k.toNat=xs):=List.take_of_length_le (by omega)
   have hmin:min (xs.length:Int) k=xs.length:=by omega
   go_enter Tryz.func63,Tryz.ntmps63
   go_wp2_with (go_at_call 100;refine hu.mono ?_;rintro e w' ⟨⟨z,rfl,hz⟩,hB⟩)
   go_ret
   exact ⟨⟨_,rfl,by rw [Un,gN,HT.out];exact hz⟩,hB⟩
 · obtain ⟨k,rfl⟩:=Int.eq_ofNat_of_zero_le hk0
   have hu:=fG w _ _ (h'.take (k:=k) (c':=c) (by omega) (by omega)) (by rw [List.length_take];omega)
   have hmin:min (xs.length:Int) (k:Int)=k:=by omega
   go_enter Tryz.func63,Tryz.ntmps63
   go_wp2_with (go_at_call 100;refine hu.mono ?_;rintro e w' ⟨⟨z,rfl,hz⟩,hB⟩)
   go_ret
   exact ⟨⟨_,rfl,by rw [Un,gN,Int.toNat_natCast];exact hz⟩,hB⟩
end Go.Proofs.YtdpmbgomcjnohaaGreatDoor
namespace Go.Proofs.YtdpmbgomcjnohaaGreatDoor
open Go.RowKit
set_option linter.all false
set_option maxRecDepth 100000
set_option maxHeartbeats 8000000
theorem uh (w:World) (v:Value) (xs:List Nat) (k:Int) (h:U w v xs) (hk0:0≤k) (hk1:k≤1000000000) (n:Nat) (hn:gN xs k.toNat=n) :
  Calls Tryz.prog 63 #[v,.int .i64 k] w fun e w'=>∃ u,e = .returned u∧Un w' u n∧Ext w w':=by
 subst hn
 exact (ni w v xs k hk0 hk1 h).mono fun e w' ⟨⟨u,he,hu⟩,hb⟩=>⟨u,he,hu,hb⟩
end Go.Proofs.YtdpmbgomcjnohaaGreatDoor
namespace Go.Proofs.YtdpmbgomcjnohaaGreatDoor
open Go.RowKit
set_option linter.all false
set_option maxRecDepth 100000
set_option maxHeartbeats 8000000
theorem rZ (w:World) (v:Value) (xs:List Nat) (h:U w v xs) :
  Calls Tryz.prog 99 #[v] w fun e w'=>e = .returned (.bool (jK xs))∧w=w':=by
 obtain ⟨A,c,rfl,⟨hc,hm⟩,hx,hr⟩:=h
 by_cases hlen:xs.length≤65536
 · rcases Nat.eq_zero_or_pos xs.length with h0 | h0
   · obtain rfl:=List.eq_nil_of_length_eq_zero h0
     go_enter Tryz.func99,Tryz.ntmps99
     go_wp2
     go_ret
     exact ⟨rfl,rfl⟩
   · obtain ⟨ad,rfl,hb,hcell⟩:=hr h0
     have hc1:=hcell (xs.length-1) (by omega)
     have hne:(((xs.length:Nat):Int)==0)=false:=by rw [beq_eq_false_iff_ne];omega
     have hres:jK xs=(lb xs (xs.length-1) != 0):=by
      unfold jK
      have:xs.isEmpty=false:=by cases xs<;>simp_all
      simp [hlen,this]
     have HR:=Lib.hid hres
     clear hres
     go_enter Tryz.func99,Tryz.ntmps99
     go_wp2
     go_ret
     exact ⟨by rw [HR.out,← bne_cast];rfl,rfl⟩
 · have hres:jK xs=false:=by unfold jK;simp [hlen]
   have hne:(((xs.length:Nat):Int)==0)=false:=by rw [beq_eq_false_iff_ne];omega
   have HR:=Lib.hid hres
   clear hres
   go_enter Tryz.func99,Tryz.ntmps99
   go_wp2
   go_ret
   exact ⟨by rw [HR.out];rfl,rfl⟩
end Go.Proofs.YtdpmbgomcjnohaaGreatDoor
namespace Go.Proofs.YtdpmbgomcjnohaaGreatDoor
open Go.RowKit
set_option linter.all false
set_option maxRecDepth 100000
set_option maxHeartbeats 8000000
attribute [local go_sem ↓] kV
attribute [local go_sem] fQ
theorem sj (w:World) (v:Value) (n:Nat) (k0:Nat) (hk:k0≤100000000) (h:Un w v n) (hl:(limbs n).length≤100000000) :
  Calls Tryz.prog 92 #[v,.int .i64 (k0:Int)] w fun e w'=>(∃ u,e = .returned u∧Un w' u (n*2^k0))∧Below w.heap.size w w':=by
 obtain ⟨A,c,rfl,⟨hc,hm⟩,hx,hr⟩:=id h
 clear hr
 obtain ⟨Q,hQ⟩:∃ Q,k0/32=Q:=⟨_,rfl⟩
 obtain ⟨S,hS⟩:∃ S,k0%32=S:=⟨_,rfl⟩
 have eQ:(k0:Int)/32=(Q:Int):=by omega
 have eS:(k0:Int)%32=(S:Int):=by omega
 have HK:Hid (k0=32*Q+S):=by rw [Hid];omega
 have qO:S<32:=by omega
 have Ty:Q≤100000000:=by omega
 go_enter Tryz.func92,Tryz.ntmps92
 go_wp2_with (fail)
 have hown0:Own (w.alloc (.cells #[] 67)) w.heap.size (.slice (some ⟨w.heap.size,0,none⟩) 0 0) []:=World.ownsRow_lit w #[] 0 (Nat.le_refl _) (Nat.zero_le _) rfl
 have hB0:Below w.heap.size w (w.alloc (.cells #[] 67)):=(Below.refl _ _).alloc (Nat.le_refl _) _
 go_loopw [5,8] (fun s i wr=>∃ k:Nat,k≤Q∧i = .int .i64 k∧Own wr w.heap.size s (List.replicate k 0)∧Below w.heap.size w wr) (fun _ i _=>Q-(intOf i).toNat)
 case atStart=>exact ⟨0,Nat.zero_le _,rfl,hown0,hB0⟩
 case round =>
  clear hown0 hB0
  obtain ⟨k,hk1,rfl,hown,hB⟩:=hrel
  by_cases hd1:k<Q
  · obtain ⟨v',w',hrun,hown',hB'⟩:=j6 hB hown 0 0 rfl (by decide) (by simp;omega)
    obtain ⟨t1,t2,t3⟩:=kD hrun
    rw [← List.replicate_succ'] at hown'
    clear hrun
    go_wp2
    go_roundw
    case rel=>exact ⟨k+1,by omega,by go_num,hown',hB'⟩
    case measure=>simp [intOf];omega
  · obtain rfl:k=Q:=by omega
    go_wp2_with (fail)
    go_loop [7,9] (fun b i=>∃ j:Nat,j≤S∧i = .int .i64 j∧b = .int .u64 (2^j:Nat)) (fun _ i=>S-(intOf i).toNat)
    case atStart=>exact ⟨0,Nat.zero_le _,rfl,rfl⟩
    case round =>
     obtain ⟨j,hj,rfl,rfl⟩:=hrel
     have hp1:2^j<4294967296:=Nat.lt_of_le_of_lt (Nat.pow_le_pow_right (by decide) (show j≤31 by omega)) (by decide)
     by_cases hd2:j<S
     · have HN:Hid (2*((2^j:Nat):Int)=((2^(j+1):Nat):Int)):=by rw [Hid,Nat.pow_succ];omega
       obtain ⟨X,hX⟩:∃ X,2^j=X:=⟨_,rfl⟩
       rw [hX] at HN hp1
       rw [hX]
       clear hX
       go_wp2
       go_round
       case rel=>exact ⟨j+1,by omega,by go_num,by rw [← HN.out]⟩
       case measure=>simp [intOf];omega
     · obtain rfl:j=S:=by omega
       have hp0:0<2^j:=Nat.two_pow_pos j
       have OC:Hid (n*2^k0=n*2^j*4294967296^k):=by
        rw [Hid,HK.out,sQ,Nat.pow_add,Nat.mul_comm (2^(32*k)),← Nat.mul_assoc]
       obtain ⟨P,hP⟩:∃ P,2^j=P:=⟨_,rfl⟩
       rw [hP] at hp0 hp1 OC
       rw [hP]
       clear hP
       go_wp2_with (fail)
       have OD:Hid (vN (limbs n) k P 0 (List.replicate k 0) 0):=vN.start _ _ _ hp0
       go_loopw [5,6,10] (fun s cv i wr=>∃ (m cy:Nat) (o:List Nat),m≤(limbs n).length+1∧i = .int .i64 m∧cv = .int .u64 cy∧Hid (vN (limbs n) k P m o cy)∧Own wr w.heap.size s o∧Below w.heap.size w wr) (fun _ _ i _=>(limbs n).length+1-(intOf i).toNat)
       case atStart=>exact ⟨0,0,_,Nat.zero_le _,rfl,rfl,OD,hown,hB⟩
       case round =>
        clear OD hown hB
        obtain ⟨m,cy,o,hm1,rfl,rfl,HO,hown,hB⟩:=hrel
        have hlen:=HO.out.len
        by_cases hd3:m≤(limbs n).length
        · have h1:=iV hx m
          have h3:=HO.out.carry
          have h4:lb (limbs n) m*P+cy<4294967296*P:=by
           have:=Nat.mul_le_mul_right P (show lb (limbs n) m+1≤4294967296 by omega)
           rw [Nat.add_mul] at this;omega
          have e1:((lb (limbs n) m:Nat):Int)*(P:Int)=((lb (limbs n) m*P:Nat):Int):=by rw [Int.natCast_mul]
          have VH:((lb (limbs n) m:Nat):Int)*(P:Int)+(cy:Int)<18446744073709551616:=by rw [e1];omega
          have hm4:0≤((lb (limbs n) m:Nat):Int)*(P:Int):=by rw [e1];omega
          obtain ⟨x1,hx1⟩:∃ x1,(lb (limbs n) m*P+cy)%4294967296=x1:=⟨_,rfl⟩
          obtain ⟨c1,hc1⟩:∃ c1,(lb (limbs n) m*P+cy)/4294967296=c1:=⟨_,rfl⟩
          have CY:Hid (vN (limbs n) k P (m+1) (o++[x1]) c1):=by rw [Hid,← hx1,← hc1];exact HO.out.step hx
          obtain ⟨v',w',hrun,hown',hB'⟩:=j6 hB hown ((((lb (limbs n) m:Nat):Int)*(P:Int)+(cy:Int))%4294967296) x1 (by rw [← hx1,e1];omega) (by rw [← hx1];exact Nat.mod_lt _ (by decide)) (by omega)
          obtain ⟨t1,t2,t3⟩:=kD hrun
          have JZ:Hid ((((lb (limbs n) m:Nat):Int)*(P:Int)+(cy:Int))/4294967296=(c1:Int)):=by rw [Hid,← hc1,e1];omega
          clear hrun hx1 hc1 hlen e1 h4
          go_wp2_with (fail)
          refine (fV _ _ (limbs n) _ m rfl (U.below h hB)).mono ?_
          rintro e w' ⟨rfl,rfl⟩
          go_wp2_with (fail)
          go_roundw
          case rel=>exact ⟨m+1,c1,_,by omega,by go_num,by rw [JZ.out],CY,hown',hB'⟩
          case measure=>simp [intOf];omega
        · obtain rfl:m=(limbs n).length+1:=by omega
          have HV:Hid (val o=n*2^k0):=by rw [Hid,HO.out.done hx (Nat.le_refl _) hp1,aI,OC.out]
          have hu:=hown.CV HO.out.lt (by omega)
          have hol:o.length≤1000000000:=by omega
          clear hlen
          go_wp2_with (fail)
          refine (fG _ _ _ hu hol).mono ?_
          rintro e w' ⟨⟨z,rfl,hz⟩,hB2⟩
          have hz2:Un w' z (n*2^k0):=by rw [← HV.out];exact hz
          replace hB:=Below.trans hB (Below.mono hB2 hB.size)
          clear hz
          go_wp2
          go_ret
          exact ⟨⟨_,rfl,hz2⟩,hB⟩
end Go.Proofs.YtdpmbgomcjnohaaGreatDoor
namespace Go.Proofs.YtdpmbgomcjnohaaGreatDoor
open Go.RowKit
set_option linter.all false
set_option maxRecDepth 100000
set_option maxHeartbeats 8000000
theorem y9 (w:World) (v:Value) (xs:List Nat) (h:U w v xs) (b:Bool) (hb:jK xs=b) :
  Calls Tryz.prog 99 #[v] w fun e w'=>e = .returned (.bool b)∧Ext w w' :=
 (rZ w v xs h).mono fun e w' ⟨he,hw⟩=>⟨by rw [he,hb],by rw [← hw];exact Ext.refl w⟩
theorem iA (w:World) (v:Value) (n:Nat) (k:Nat) (h:Un w v n) (hk1:k≤100000000) (hl:(limbs n).length≤100000000) (s:Nat) (hs:n*2^k=s) :
  Calls Tryz.prog 92 #[v,.int .i64 (k:Int)] w fun e w'=>∃ z,e = .returned z∧Un w' z s∧Ext w w':=by
 subst hs
 exact (sj w v n k hk1 h hl).mono fun e w' ⟨⟨z,he,hz⟩,hb⟩=>⟨z,he,hz,hb⟩
end Go.Proofs.YtdpmbgomcjnohaaGreatDoor
namespace Go.Proofs.YtdpmbgomcjnohaaGreatDoor
open Go.RowKit
set_option linter.all false
set_option maxRecDepth 100000
set_option maxHeartbeats 8000000
theorem vO {w X Y:World} {p:Bool} {mp:Value} (h:(w.heap.size+1<X.heap.size∧X.cell? ⟨w.heap.size,0,none⟩=some (.bool p)∧X.cell? ⟨w.heap.size,1,none⟩=some mp)∧Ext w X) (k:Ext X Y):(w.heap.size+1<Y.heap.size∧Y.cell? ⟨w.heap.size,0,none⟩=some (.bool p)∧Y.cell? ⟨w.heap.size,1,none⟩=some mp)∧Ext w Y:=by
 obtain ⟨⟨h0,h1,h2⟩,hx⟩:=h
 have hs:=k.size
 exact ⟨⟨by omega,(k.cell (p:=⟨w.heap.size,0,none⟩) (by show w.heap.size<_;omega)).trans h1,(k.cell (p:=⟨w.heap.size,1,none⟩) (by show w.heap.size<_;omega)).trans h2⟩,hx.below k⟩
theorem vP {w X:World} {p:Bool} {mp x y:Value} (h:(w.heap.size+1<X.heap.size∧X.cell? ⟨w.heap.size,0,none⟩=some (.bool p)∧X.cell? ⟨w.heap.size,1,none⟩=some mp)∧Ext w X):(w.heap.size+1<((X.setCell ⟨w.heap.size+1,0,none⟩ x).setCell ⟨w.heap.size+1,1,none⟩ y).heap.size∧((X.setCell ⟨w.heap.size+1,0,none⟩ x).setCell ⟨w.heap.size+1,1,none⟩ y).cell? ⟨w.heap.size,0,none⟩=some (.bool p)∧((X.setCell ⟨w.heap.size+1,0,none⟩ x).setCell ⟨w.heap.size+1,1,none⟩ y).cell? ⟨w.heap.size,1,none⟩=some mp)∧Ext w ((X.setCell ⟨w.heap.size+1,0,none⟩ x).setCell ⟨w.heap.size+1,1,none⟩ y):=by
 obtain ⟨⟨h0,h1,h2⟩,hx⟩:=h
 have hc:∀ a:Addr,a.block≠w.heap.size+1→((X.setCell ⟨w.heap.size+1,0,none⟩ x).setCell ⟨w.heap.size+1,1,none⟩ y).cell? a=X.cell? a:=fun a ha=>by
  rw [World.cell?_setCell_other _ _ _ _ (fun e=>ha (by rw [← e])),World.cell?_setCell_other _ _ _ _ (fun e=>ha (by rw [← e]))]
 refine ⟨⟨by simpa using h0,?_,?_⟩,hx.fZ (by omega) _ _⟩
 · rw [hc _ (by show w.heap.size≠_;omega)];exact h1
 · rw [hc _ (by show w.heap.size≠_;omega)];exact h2
end Go.Proofs.YtdpmbgomcjnohaaGreatDoor
namespace Go.Proofs.YtdpmbgomcjnohaaGreatDoor
open Go.RowKit
set_option linter.all false
set_option maxRecDepth 100000
set_option maxHeartbeats 8000000
theorem su (w:World):(Instr.alloc 24 true (.tuple #[])).run Tryz.prog w = .ok (.pointer (some ⟨w.heap.size,0,none⟩)) (w.alloc (.cells #[.bool false,.slice none 0 0] 24)):=by go_simp
theorem sw {w:World} {N:Nat} {b0:Bool} {A0:Option Addr} {n0 c0:Nat} (h:Ib w N b0 (.slice A0 n0 c0)) (b:Bool) (A:Option Addr) (n c:Nat) :
  (Instr.storeAt 24 (.pointer (some ⟨N,0,none⟩)) (.agg #[.bool b,.slice A n c])).run Tryz.prog w = .ok () ((w.setCell ⟨N,0,none⟩ (.bool b)).setCell ⟨N,1,none⟩ (.slice A n c))∧Ib ((w.setCell ⟨N,0,none⟩ (.bool b)).setCell ⟨N,1,none⟩ (.slice A n c)) N b (.slice A n c):=by
 obtain ⟨h0,h1,h2,h3,h4⟩:=h
 refine ⟨?_,?_,?_,?_,?_,?_⟩
 all_goals go_simp
section
variable {L:List Oper} {S:World→Prop} {K:List (Nat × Value)→World→Prop} {i m d:Nat} {o:Oper} {x y:Operand} {r:List (Bool × Nat × Nat)} {l:List (Nat × Value)} {w:World} {b b0:Bool} {A A0:Option Addr} {n c n0 c0 N:Nat}
theorem bP (ho:Pl.nth L i=some o) (hp:o.op = .alloc 24) (hd:o.dst=some d) (hg:o.guard=none) (hS:∀ Y,Ext w Y→S Y)
  (h:∀ N w',Ext w w'→w.heap.size≤N→Ib w' N false (.slice none 0 0)→Pl.lD Tryz.prog L S K r ((d,.pointer (some ⟨N,0,none⟩))::l) w'):Pl.lD Tryz.prog L S K ((false,i,m)::r) l w:=by
 have e1:=(Ext.refl w).alloc (.cells #[.bool false,.slice none 0 0] 24)
 exact Pl.AX ho hp hd (by rw [hg];rfl) (su w) (hS _ e1) (h _ _ e1 (Nat.le_refl _) (Ib.new w false (.slice none 0 0) 24))
theorem pO (ho:Pl.nth L i=some o) (hp:o.op = .store 24 x y) (hd:o.dst=none) (hg:o.guard=none) (hx:Pl.kI l x=some (.pointer (some ⟨N,0,none⟩))) (hy:Pl.kI l y=some (.agg #[.bool b,.slice A n c]))
  (hI:Ib w N b0 (.slice A0 n0 c0)) (hS:∀ Y,(∀ w0,Ext w0 w→w0.heap.size≤N→Ext w0 Y)→S Y)
  (h:∀ w',(∀ w0,Ext w0 w→w0.heap.size≤N→Ext w0 w')→(∀ v z,Zn w v z→Zn w' v z)→(∀ M b m,M≠N→Ib w M b m→Ib w' M b m)→Ib w' N b (.slice A n c)→Pl.lD Tryz.prog L S K r l w'):Pl.lD Tryz.prog L S K ((false,i,m)::r) l w:=by
 obtain ⟨r1,I1⟩:=sw hI b A n c
 have T1:∀ w0,Ext w0 w→w0.heap.size≤N→Ext w0 ((w.setCell ⟨N,0,none⟩ (.bool b)).setCell ⟨N,1,none⟩ (.slice A n c)):=fun w0 h hN=>h.fZ hN _ _
 exact Pl.ze ho hp hd (by rw [hg];rfl) hx hy r1 (hS _ T1) (h _ T1 (fun v z hz=>hz.fZ hI (dw _ _ _) _ _) (fun M b m hne hM=>hM.other hne _ _) I1)
end
end Go.Proofs.YtdpmbgomcjnohaaGreatDoor
namespace Go.Proofs.YtdpmbgomcjnohaaGreatDoor
open Go.RowKit
set_option linter.all false
set_option maxRecDepth 100000
set_option maxHeartbeats 8000000
section
variable {L:List Oper} {S:World→Prop} {K:List (Nat × Value)→World→Prop} {k:Bool} {i m d:Nat} {o:Oper} {x:Operand} {r:List (Bool × Nat × Nat)} {l:List (Nat × Value)} {w:World} {b b1 b2:Bool} {A A1 A2:Option Addr} {n c n1 c1 n2 c2:Nat}
theorem FE (ho:Pl.nth L i=some o) (hp:o.op = .box 24 x) (hd:o.dst=some d) (hg:o.guard=none) (hx:Pl.kI l x=some (.agg #[.bool b,.slice A n c])) (hS:∀ Y,Ext w Y→S Y)
  (h:∀ N w',Ext w w'→Ib w' N b (.slice A n c)→Pl.lD Tryz.prog L S K r ((d,.pointer (some ⟨N,0,none⟩))::l) w'):Pl.lD Tryz.prog L S K ((false,i,m)::r) l w:=by
 have e1:=(Ext.refl w).alloc (.cells #[.bool b,.slice A n c] 24)
 refine Pl.uZ (w':=w.alloc (.cells #[.bool b,.slice A n c] 24)) (v:=.pointer (some ⟨w.heap.size,0,none⟩)) ho hd (by rw [hg];rfl) (fun ρ hρ=>?_) (hS _ e1) (h _ _ e1 (Ib.new w b _ _))
 unfold execOp;rw [hp]
 refine Pl.sS _ ?_
 rw [hρ.kI hx]
 go_simp
end
end Go.Proofs.YtdpmbgomcjnohaaGreatDoor
namespace Go.Proofs.YtdpmbgomcjnohaaGreatDoor
open Go.RowKit
set_option linter.all false
set_option maxRecDepth 100000
set_option maxHeartbeats 8000000
theorem zO {x y:Operand} {a b:Int} {v:Bool} (h:decide (b≤a)=v) (X:World):(do eqGuard .geq 3 x y (.int .i64 a) (.int .i64 b);binOp .geq 3 (.int .i64 a) (.int .i64 b):Sem Value).run Tryz.prog X = .ok (.bool v) X:=by
 subst h;go_simp
theorem FH {a c:Int} (h : -a=c) (h1 : -1000000≤c) (h2:c≤1000000) (X:World):(Op.unary .neg (.int .i64 a)).run Tryz.prog X = .ok (.int .i64 c) X:=by
 have:IntKind.i64.wrap c=c:=IntWalk.i64_in _ (by omega)
 go_simp
theorem Ib.mag {X:World} {N:Nat} {b:Bool} {m:Value} (h:Ib X N b m):(Instr.loadAt 22 (.pointer (some ⟨N,1,none⟩))).run Tryz.prog X = .ok m X:=by
 obtain ⟨h0,h1,h2,h3,h4⟩:=h
 go_simp
theorem BH (N:Nat) (X:World):(Instr.fieldAt 24 (.pointer (some ⟨N,0,none⟩)) 1).run Tryz.prog X = .ok (.pointer (some ⟨N,1,none⟩)) X:=by go_simp
theorem BI (N:Nat) (X:World):(Instr.fieldAt 24 (.pointer (some ⟨N,0,none⟩)) 0).run Tryz.prog X = .ok (.pointer (some ⟨N,0,none⟩)) X:=by go_simp
section
variable {L:List Oper} {S:World→Prop} {K:List (Nat × Value)→World→Prop} {k:Bool} {i m d:Nat} {o:Oper} {x:Operand} {r:List (Bool × Nat × Nat)} {l:List (Nat × Value)} {w:World}
theorem qW {T:TypeId} {j:Nat} {p v:Value} (hS:S w) (ho:Pl.nth L i=some o) (hop:o.op = .fieldAddr T x j) (hd:o.dst=some d) (hg:Pl.gd L l o.guard=some true) (hx:Pl.kI l x=some p)
  (hr:∀ X,(Instr.fieldAt T p j).run Tryz.prog X = .ok v X) (h:Pl.lD Tryz.prog L S K r ((d,v)::l) w):Pl.lD Tryz.prog L S K ((k,i,m)::r) l w :=
 Pl.nD hS ho hd hg (fun ρ hρ X _=>by unfold execOp;rw [hop];exact Pl.pQ _ X (by rw [hρ.kI hx];exact hr X)) h
end
end Go.Proofs.YtdpmbgomcjnohaaGreatDoor
namespace Go.Proofs.YtdpmbgomcjnohaaGreatDoor
open Go.RowKit
set_option linter.all false
set_option maxRecDepth 100000
set_option maxHeartbeats 8000000
section
variable {x y:Operand} {X:World}
section
variable {L:List Oper} {S:World→Prop} {K:List (Nat × Value)→World→Prop} {k:Bool} {i m d:Nat} {o:Oper} {r:List (Bool × Nat × Nat)} {l:List (Nat × Value)} {w:World}
end
end
theorem lK {L:List Oper} {S:World→Prop} {K:List (Nat × Value)→World→Prop} {i m d:Nat} {o:Oper} {x:Operand} {r:List (Bool × Nat × Nat)} {l:List (Nat × Value)} {w:World} {n:Nat} (hn:n<4294967296)
  (ho:Pl.nth L i=some o) (hp:o.op = .buildSlice 22 1 #[(0,x)]) (hd:o.dst=some d) (hg:Pl.gd L l o.guard=some true) (hx:Pl.kI l x=some (.int .u32 (n:Int))) (hS:∀ Y,Ext w Y→S Y)
  (h:∀ A w',Ext w w'→U w' (.slice A 1 1) [n]→Pl.lD Tryz.prog L S K r ((d,.slice A 1 1)::l) w'):Pl.lD Tryz.prog L S K ((false,i,m)::r) l w:=by
 have e1:=(Ext.refl w).alloc (.cells #[.int .u32 (n:Int)] 67)
 refine Pl.uZ (w':=w.alloc (.cells #[.int .u32 (n:Int)] 67)) (v:=.slice (some ⟨w.heap.size,0,none⟩) 1 1) ho hd hg (fun ρ hρ=>?_) (hS _ e1) (h _ _ e1 ?_)
 · unfold execOp;rw [hp]
   refine Pl.sS _ ?_
   have e:=hρ.kI hx
   simp only [List.map_toArray,List.map_cons,List.map_nil]
   go_simp
 · refine ⟨some ⟨w.heap.size,0,none⟩,1,rfl,⟨Nat.le_refl _,by show 1≤_;decide⟩,fun x hx=>?_,fun _=>⟨⟨w.heap.size,0,none⟩,rfl,by simp,fun j hj=>?_⟩⟩
   · obtain rfl:x=n:=by simpa using hx
     exact hn
   · obtain rfl:j=0:=by simp at hj;omega
     have:lb [n] 0=n:=rfl
     go_simp
end Go.Proofs.YtdpmbgomcjnohaaGreatDoor
namespace Go.Proofs.YtdpmbgomcjnohaaGreatDoor
open Go.RowKit
set_option linter.all false
set_option maxRecDepth 100000
set_option maxHeartbeats 8000000
/-! Contracts. -/
/-! Comparisons of what nat.Cmp tells. -/
section
variable {P:Program} {T:TypeId} {x y:Operand} {n m:Nat}
end
/-! Numbers of the kinds. -/
section
variable {P:Program} {T:TypeId} {x y:Operand} {a b:Nat} {za zb:Int}
theorem vQ (h0:b≠0) (_:a≤a) (X:World):Pl.Bn P .rem T x y (.int .u32 ((a:Nat):Int)) (.int .u32 ((b:Nat):Int)) X = .ok (.int .u32 ((a%b:Nat):Int)) X:=Pl.wD (by omega) (Int.ofNat_tmod a b).symm X
theorem jR (h0:b≠0) (_:a≤a) (X:World):Pl.Bn P .rem T x y (.int .i64 ((a:Nat):Int)) (.int .i64 ((b:Nat):Int)) X = .ok (.int .i64 ((a%b:Nat):Int)) X:=Pl.wD (by omega) (Int.ofNat_tmod a b).symm X
end
/-! Ways out of loops and blocks. -/
section
variable {P:Program} {Q:Exit→Act→World→Prop} {n:Nat} {ds:List Deferred} {cs:List Code} {l:List (Nat × Value)} {w:World}
end
section
variable {P:Program} {L:List Oper} {S:World→Prop} {K:List (Nat × Value)→World→Prop} {kk:Bool} {i m d:Nat} {o:Oper} {x y:Operand} {r:List (Bool × Nat × Nat)} {l:List (Nat × Value)} {w:World} {k:IntKind} {a b:Nat}
end
end Go.Proofs.YtdpmbgomcjnohaaGreatDoor
namespace Go.Proofs.YtdpmbgomcjnohaaGreatDoor
open Go.RowKit
set_option linter.all false
set_option maxRecDepth 100000
set_option maxHeartbeats 8000000
/-! Structs. -/
section
variable {P:Program} {T:TypeId} {x y:Operand} {a b:Int}
theorem zf (h:a≤b) (X:World):Pl.Bn P .leq T x y (.int .i64 a) (.int .i64 b) X = .ok (.bool true) X:=Pl.CZ (decide_eq_true h) X
theorem zg (h:¬ a≤b) (X:World):Pl.Bn P .leq T x y (.int .i64 a) (.int .i64 b) X = .ok (.bool false) X:=Pl.CZ (decide_eq_false h) X
end
section
variable {P:Program} {L:List Oper} {S:World→Prop} {K:List (Nat × Value)→World→Prop} {kk:Bool} {i m d:Nat} {o:Oper} {x y:Operand} {r:List (Bool × Nat × Nat)} {l:List (Nat × Value)} {w:World} {a b:Int} {k:IntKind}
end
/-! Results that lie in variables. -/
section
variable {n:Nat} {cs:List Code} {l:List (Nat × Value)} {w:World} {fn:Func} {R:Ending→World→Prop}
end
end Go.Proofs.YtdpmbgomcjnohaaGreatDoor
namespace Go.Proofs.YtdpmbgomcjnohaaGreatDoor
open Go.RowKit
set_option linter.all false
set_option maxRecDepth 100000
set_option maxHeartbeats 8000000
theorem zP (w:World) (v:Value) (b:Bool) (xs:List Nat) (h:Ri w v b xs) (r:Bool) (hr:(jK xs&&!(b&&decide (xs.length=0)))=r) :
  Calls Tryz.prog 61 #[v] w fun e w'=>e = .returned (.bool r)∧Ext w w':=by
 obtain ⟨A,c,rfl,hu⟩:=h
 have hE0:=(Ext.refl w).alloc (.cells #[.bool b,.slice A xs.length c] 24)
 have kZ:=Ib.new w b (.slice A xs.length c) 24
 have hu0:=hu.below hE0
 obtain ⟨q,hq⟩:∃ q,jK xs=q:=⟨_,rfl⟩
 have hR:=Lib.hid (y9 _ _ xs hu0 q hq)
 rw [hq] at hr
 obtain ⟨L,hL⟩:∃ L,xs.length=L:=⟨_,rfl⟩
 rw [hL] at hr hR kZ hE0 ⊢
 clear hq hL hu0 hu
 by_cases h0:L=0
 · subst h0
   cases b<;>cases q
   all_goals (
    subst hr
    go_enter Tryz.func61,Tryz.ntmps61
    go_wp2_with (go_at_call 99;refine hR.out.mono ?_;rintro e w2 ⟨rfl,hE2⟩;obtain ⟨p0,p1,p2,p3,p4⟩:=kZ.ext hE2)
    go_ret
    exact ⟨by first | rfl | simp,hE0.below hE2⟩)
 · have h3:(0:Int)<(L:Int):=by omega
   have h4:0<L:=by omega
   rw [decide_eq_false h0] at hr
   cases b<;>cases q
   all_goals (
    subst hr
    go_enter Tryz.func61,Tryz.ntmps61
    go_wp2_with (go_at_call 99;refine hR.out.mono ?_;rintro e w2 ⟨rfl,hE2⟩;obtain ⟨p0,p1,p2,p3,p4⟩:=kZ.ext hE2)
    go_ret
    exact ⟨by first | rfl | simp,hE0.below hE2⟩)
theorem EC (w:World) (v:Value) (z:Int) (h:Zn w v z) (hl:(limbs z.natAbs).length≤1000000) (k:Int) (hk:Int.sign z=k) :
  Calls Tryz.prog 52 #[v] w fun e w'=>e = .returned (.int .i64 k)∧Ext w w':=by
 have hk2:jy z 0=k:=by
  rw [← hk]
  unfold jy
  rcases Int.lt_trichotomy z 0 with h | h | h
  · rw [if_pos h,Int.sign_eq_neg_one_of_neg h]
  · subst h;rfl
  · rw [if_neg (by omega),if_pos h,Int.sign_eq_one_of_pos h]
 have h':=h
 obtain ⟨p,A,L,c,rfl⟩:=h.sh
 have hE0:=(Ext.refl w).alloc (.cells #[.bool p,.slice A L c] 24)
 have hC:=Lib.hid (Iz _ _ _ z 0 (h'.below hE0) (Zn.zero _ none 0) hl (by rw [show Int.natAbs 0=0 from rfl,fI];decide) k hk2)
 clear hk hk2 hl h h'
 go_enter Tryz.func52,Tryz.ntmps52
 go_wp2_with (go_at_call 89;refine hC.out.mono ?_;rintro e w2 ⟨rfl,hE2⟩)
 go_ret
 exact ⟨rfl,hE0.below hE2⟩
end Go.Proofs.YtdpmbgomcjnohaaGreatDoor
namespace Go.Proofs.YtdpmbgomcjnohaaGreatDoor
open Go.RowKit
set_option linter.all false
set_option maxRecDepth 100000
set_option maxHeartbeats 8000000
theorem vR (w:World) (va:Value) (b:Bool) (xs:List Nat) (ha:Ri w va b xs) (k:Int) (hk0:0≤k) (hk1:k≤1000000) (n:Nat) (hn:gN xs k.toNat=n) (hl:(limbs n).length≤1000000) (y:Int) (hy:sg b n=y) :
  Calls Tryz.prog 16 #[va,.int .i64 k] w fun e w'=>∃ u,e = .returned u∧Zn w' u y∧Ext w w':=by
 obtain ⟨A,c,rfl,hu⟩:=ha
 obtain ⟨L,hL⟩:∃ L,xs.length=L:=⟨_,rfl⟩
 have ED:=Lib.hid (fun W h=>uh W (.slice A xs.length c) xs k h hk0 (by omega) n hn)
 rw [hL] at ED hu ⊢
 have hE0:=(((Ext.refl w).alloc (.cells #[.bool b,.slice A L c] 24)).alloc (.cells #[.bool false,.slice none 0 0] 24)).drew
 have hI0:=(Ib.new2 w (.cells #[.bool b,.slice A L c] 24) false (.slice none 0 0) 24).ext (Ext.refl _).drew
 have kZ:=(Ib.new w b (.slice A L c) 24).ext (((Ext.refl _).alloc (.cells #[.bool false,.slice none 0 0] 24)).drew)
 have hS0:(w.heap.size+1<((w.alloc (.cells #[.bool b,.slice A L c] 24)).alloc (.cells #[.bool false,.slice none 0 0] 24)).drew.heap.size∧((w.alloc (.cells #[.bool b,.slice A L c] 24)).alloc (.cells #[.bool false,.slice none 0 0] 24)).drew.cell? ⟨w.heap.size,0,none⟩=some (.bool b)∧((w.alloc (.cells #[.bool b,.slice A L c] 24)).alloc (.cells #[.bool false,.slice none 0 0] 24)).drew.cell? ⟨w.heap.size,1,none⟩=some (.slice A L c))∧Ext w ((w.alloc (.cells #[.bool b,.slice A L c] 24)).alloc (.cells #[.bool false,.slice none 0 0] 24)).drew:=⟨⟨by simp,kZ.2.1,kZ.2.2.1⟩,hE0⟩
 have hu0:=hu.below hE0
 have hM1:=Lib.hid (fun W v (h:Un W v n)=>dL W b v (limbs n) h (by omega) n (aI _) y hy)
 clear kZ hy hn hL hl hu hk0 hk1
 go_enter Tryz.func16,Tryz.ntmps16
 go_wp2
 go_region_held3 (fun X=>(w.heap.size+1<X.heap.size∧X.cell? ⟨w.heap.size,0,none⟩=some (.bool b)∧X.cell? ⟨w.heap.size,1,none⟩=some (.slice A L c))∧Ext w X)
  (first
   | assumption
   | with_reducible exact hS0
   | with_reducible exact vP (by assumption)
   | exact vO (by assumption) (by assumption))
  (first
   | (go_at_call 63;((with_reducible refine (ED.out _ hu0).mono ?_);rintro e w2 ⟨u,rfl,hu2,hE2⟩;obtain ⟨A2,c2,rfl,-⟩:=Un.sh hu2))
   | (go_at_call 62;((with_reducible refine (hM1.out _ _ hu2).mono ?_);rintro e w3 ⟨u,rfl,hz3,aO⟩;obtain ⟨b3,A3,L3,c3,rfl⟩:=hz3.sh;have nX:=(hI0.ext hE2).ext aO;obtain ⟨i0,i1,i2,i3,i4⟩:=id nX)))
 clear nX ED hM1
 go_wp2
 (try simp only [Exit.inBlock,Exit.then])
 refine bodyPost_ret (v:=.agg #[.bool b3,.slice A3 L3 c3]) (show (results _ _).run _ _=_ from ?_) rfl ⟨_,rfl,hz3.fZ ((hI0.ext hE2).ext aO) (dw _ _ _) _ _,((hE0.below hE2).below aO).fZ (by omega) _ _⟩
 simp only [results]
 go_simp
end Go.Proofs.YtdpmbgomcjnohaaGreatDoor
namespace Go.Proofs.YtdpmbgomcjnohaaGreatDoor
open Go.RowKit
set_option linter.all false
set_option maxRecDepth 100000
set_option maxHeartbeats 8000000
theorem bX (a:Int) (i:Nat):shl a (-(i:Int))=a/2^i:=by
 unfold shl
 rcases Nat.eq_zero_or_pos i with rfl | h
 · simp
 · rw [if_neg (by omega),Int.neg_neg];rfl
theorem oU (w:World) (va:Value) (b:Bool) (xs:List Nat) (ha:Ri w va b xs) (k:Nat) (z:Int) (hz:z=(k:Int)) (hk1:k≤1000000) (y:Int) (hy:sg b (gN xs k)=y) :
  Calls Tryz.prog 16 #[va,.int .i64 z] w fun e w'=>∃ u,e = .returned u∧Zn w' u y∧Ext w w':=by
 subst hz
 obtain ⟨A,c,e,hu⟩:=id ha
 exact vR w va b xs ha (k:Int) (by omega) (by omega) (gN xs k) rfl (Nat.le_trans (kW xs k hu.lim) hk1) y hy
end Go.Proofs.YtdpmbgomcjnohaaGreatDoor
namespace Go.Proofs.YtdpmbgomcjnohaaGreatDoor
open Go.RowKit
set_option linter.all false
set_option maxRecDepth 100000
set_option maxHeartbeats 8000000
theorem nE {n:Nat} {cs:List Code} {l:List (Nat × Value)} {w:World} {fn:Func} {R:Ending→World→Prop} {t:Tmp} {N:Nat} {b:Bool} {m:Value} (hr:fn.results=#[.cell t 24]) (hv:Pl.look l t=some (.pointer (some ⟨N,0,none⟩)))
  (hI:Ib w N b m) (h:R (.returned (.agg #[.bool b,m])) w):Pl.V Tryz.prog (bodyPost Tryz.prog fn R) n [] (.ret::cs) l w:=Pl.Es fun a ha=>by
 refine ⟨ha.defers,_,?_,h⟩
 obtain ⟨h0,h1,h2,h3,h4⟩:=hI
 unfold results
 rw [hr]
 have e:a.tmps.getD t undef = .pointer (some ⟨N,0,none⟩):=by rw [Array.getD_eq_getD_getElem?,ha.look t _ hv];rfl
 simp only [List.mapM_toArray,List.mapM_cons,List.mapM_nil,e]
 go_simp
theorem wF (a:Int) (k:Nat):sg (decide (a<0)) (a.natAbs*2^k)=a*2^k:=by
 have e:((a.natAbs*2^k:Nat):Int)=(a.natAbs:Int)*2^k:=by push_cast;rfl
 by_cases h:a<0
 · rw [decide_eq_true h,zQ,e,← Int.neg_mul];congr 1;omega
 · rw [decide_eq_false h,uj,e];congr 1;omega
theorem eD (k:Nat):sg false (1*2^k)=(2:Int)^k:=by rw [uj,Nat.one_mul];push_cast;rfl
theorem uK {a:Int} {K k:Nat} (h:Sz a K) (hk:k<32*40):(limbs (a.natAbs*2^k)).length≤K+40:=by
 have:=(h.mul (Sz.two (n:=k) (M:=40) hk) (Nat.le_refl _))
 have e:(a*2^k).natAbs=a.natAbs*2^k:=by rw [Int.natAbs_mul,Int.natAbs_pow];rfl
 rw [← e];exact this
section
variable {x y:Operand}
end
end Go.Proofs.YtdpmbgomcjnohaaGreatDoor
namespace Go.Proofs.YtdpmbgomcjnohaaGreatDoor
open Go.RowKit
set_option linter.all false
set_option maxRecDepth 100000
set_option maxHeartbeats 8000000
namespace JE
set_option linter.all false
set_option maxRecDepth 100000
set_option maxHeartbeats 8000000
theorem gy (u:Array Value) (X:World):(callFunc 93 u).run Tryz.prog X = .ok (.enter 93 u) X:=Pl.enters Tryz.func93 (by kernel_rfl) rfl u X
theorem jm (u:Array Value) (X:World):(callFunc 62 u).run Tryz.prog X = .ok (.enter 62 u) X:=Pl.enters Tryz.func62 (by kernel_rfl) rfl u X
theorem mX (u:Array Value) (X:World):(callFunc 92 u).run Tryz.prog X = .ok (.enter 92 u) X:=Pl.enters Tryz.func92 (by kernel_rfl) rfl u X
end JE
open JE
theorem wG (w:World) (va:Value) (a s:Int) (ha:Zn w va a) (hl:Sz a 100) (h0:0≤s) (h1 : -900≤s) (h2:s≤900) :
  Calls Tryz.prog 51 #[va,.int .i64 s] w fun e w'=>∃ u,e = .returned u∧Zn w' u (shl a s)∧Ext w w':=by
 obtain ⟨A,c,rfl,hu⟩:=id ha
 obtain ⟨k,rfl⟩:∃ k:Nat,s=(k:Int):=⟨s.natAbs,by omega⟩
 refine Pl.bL (n:=29) (vs:=[.agg #[.bool (decide (a<0)),.slice A (limbs a.natAbs).length c],.int .i64 ((k:Nat):Int)]) Tryz.func51 rfl (by kernel_rfl) (by simp) ?_
 refine Pl.ay ?_
 refine Pl.aB (by kernel_rfl) ?_
 refine FE rfl rfl rfl rfl rfl (fun _ _=>trivial) ?_
 intro N1 w1 hB1 i_1
 refine bP rfl rfl rfl rfl (fun _ _=>trivial) ?_
 intro N2 w2 hB2 iB i_2
 refine Pl.af ?_
 refine Pl.ay ?_
 refine Pl.ay ?_
 refine Pl.aB (by kernel_rfl) ?_
 refine Pl.bN trivial rfl rfl rfl rfl rfl ?_
 refine Pl.xB (v:=(.bool true)) trivial rfl rfl rfl rfl rfl rfl (fun X=>zO (decide_eq_true h0) X) ?_
 refine Pl.af ?_
 refine Pl.iO rfl ?_
 refine Pl.ay ?_
 have hB3:=Ext.drew (Ext.refl w2)
 refine Pl.fJ (S:=fun X=>Ext w1 X) [(true,0,0),(true,1,1),(true,2,3),(true,3,7),(true,4,15),(false,5,31),(false,6,63),(false,7,127)] fo Pl.az (by kernel_rfl) (Ext.drew hB2) ?_
 generalize w2.drew=w3 at hB3 ⊢
 intro eY
 refine qW eY rfl rfl rfl rfl rfl (BI _) ?_
 refine Pl.qX eY rfl rfl rfl rfl rfl (fun X hX=>Ib.neg (Ib.ext i_1 hX)) ?_
 refine qW eY rfl rfl rfl rfl rfl (BH _) ?_
 refine Pl.qX eY rfl rfl rfl rfl rfl (fun X hX=>Ib.mag (Ib.ext i_1 hX)) ?_
 refine Pl.bN eY rfl rfl rfl rfl rfl ?_
 have FI:=Un.below hu (Ext.below hB1 (Ext.below hB2 hB3))
 refine Pl.ah rfl rfl rfl rfl rfl mX ?_
 refine Calls.mono (iA _ _ a.natAbs k FI (by omega) (Nat.le_trans hl (by decide)) _ rfl) ?_
 rintro e w4 ⟨ZE,rfl,MS,hB4⟩
 have dP:=Ext.below eY hB4
 refine ⟨_,rfl,dP,?_⟩
 refine Pl.ah rfl rfl rfl rfl rfl jm ?_
 refine Calls.mono (dL _ (decide (a<0)) _ (limbs (a.natAbs*2^k)) MS (Nat.le_trans (uK hl (by omega)) (by decide)) _ (aI _) (shl a ((k:Nat):Int)) ((wF a k).trans (vL a k).symm)) ?_
 rintro e w5 ⟨wH,rfl,jo,dx⟩
 have hS5:=Ext.below dP dx
 refine ⟨_,rfl,hS5,?_⟩
 have lY:Sz (shl a ((k:Nat):Int)) 140:=Sz.shl hl (by omega) (by decide)
 obtain ⟨ZF,ZG,ZH,ZI,rfl⟩:=Zn.sh jo
 have BJ:=Ib.ext i_2 (Ext.below hB3 (Ext.below hB4 dx))
 refine pO rfl rfl rfl rfl rfl rfl BJ (fun _ T=>T _ hS5 (Nat.le_trans (Below.size (Ext.refl w1)) iB)) ?_
 intro w6 FJ MU ZJ ZK
 have bU:=FJ _ (Ext.below hB2 (Ext.below hB3 (Ext.below hB4 dx))) (Nat.le_trans (Below.size (Ext.refl w1)) iB)
 have bS:=FJ _ hS5 (Nat.le_trans (Below.size (Ext.refl w1)) iB)
 have yL:=MU _ _ jo
 refine Pl.af ?_
 refine nE rfl rfl ZK ?_
 exact ⟨_,rfl,yL,(Ext.below hB1 bU)⟩
theorem wI (w:World) (va:Value) (a s:Int) (ha:Zn w va a) (hl:Sz a 100) (h0:¬ 0≤s) (h1 : -900≤s) (h2:s≤900) :
  Calls Tryz.prog 51 #[va,.int .i64 s] w fun e w'=>∃ u,e = .returned u∧Zn w' u (shl a s)∧Ext w w':=by
 obtain ⟨A,c,rfl,hu⟩:=id ha
 obtain ⟨k,rfl⟩:∃ k:Nat,s = -(k:Int):=⟨s.natAbs,by omega⟩
 refine Pl.bL (n:=29) (vs:=[.agg #[.bool (decide (a<0)),.slice A (limbs a.natAbs).length c],.int .i64 (-((k:Nat):Int))]) Tryz.func51 rfl (by kernel_rfl) (by simp) ?_
 refine Pl.ay ?_
 refine Pl.aB (by kernel_rfl) ?_
 refine FE rfl rfl rfl rfl rfl (fun _ _=>trivial) ?_
 intro N1 w1 hB1 i_1
 refine bP rfl rfl rfl rfl (fun _ _=>trivial) ?_
 intro N2 w2 hB2 iB i_2
 refine Pl.af ?_
 refine Pl.ay ?_
 refine Pl.ay ?_
 refine Pl.aB (by kernel_rfl) ?_
 refine Pl.bN trivial rfl rfl rfl rfl rfl ?_
 refine Pl.xB (v:=(.bool false)) trivial rfl rfl rfl rfl rfl rfl (fun X=>zO (decide_eq_false h0) X) ?_
 refine Pl.af ?_
 refine Pl.gm rfl ?_
 refine Pl.iK ?_
 refine Pl.ay ?_
 refine Pl.nG (S:=fun X=>Ext w2 X) fo (Ext.drew (Ext.refl _)) ?_
 generalize w2.drew=w3
 intro hB3
 have eY:=hB3
 refine Pl.fP 3 8191 (fun l' w'=>∃ (Jz:Nat) (JA:Nat) (FK:Value) (FL:Value),l'=[(4,.pointer (some ⟨N2,0,none⟩)),(5,.pointer (some ⟨Jz,0,none⟩)),(6,.pointer (some ⟨JA,0,none⟩)),(25,FK),(26,FL),(27,(.int .i64 0))]∧Ext w2 w'∧w2.heap.size≤Jz∧Ib w' Jz false (.slice none 0 0)∧w2.heap.size≤JA∧Ib w' JA false (.slice none 0 0)∧Zn w' FK (shl a (-((k:Nat):Int)))∧Zn w' FL (a%((2:Int)^k))∧Jz≠JA) ?_ ?_
 rotate_left
 · intro hK
   refine Pl.aZ [(true,0,0),(true,2,1),(true,3,5)] 13 13 Pl.az (by kernel_rfl) (by kernel_rfl) (by kernel_rfl) ?_
   have BK:=Ib.ext i_1 hB2
   refine Pl.qX eY rfl rfl rfl rfl rfl (fun X hX=>Ib.load (Ib.ext BK hX)) ?_
   refine Pl.bN eY rfl rfl rfl rfl rfl ?_
   refine Pl.mK (v:=(.int .i64 ((k:Nat):Int))) eY rfl rfl rfl rfl rfl (fun X=>FH (by omega) (by omega) (by omega) X) ?_
   refine Pl.af ?_
   refine Pl.cB [1,11,12] 12 (by kernel_rfl) (by kernel_rfl) (by kernel_rfl) (Pl.aj ?_ (Pl.aj ?_ (Pl.aj ?_ Pl.aJ)))
   · refine lK (n:=1) (by decide) rfl rfl rfl rfl rfl (fun _ k=>Ext.below eY k) ?_
     intro A3 w4 hB4 wJ
     have dP:=Ext.below eY hB4
     refine Pl.af ?_
     refine Pl.cB [4,11,12] 11 (by kernel_rfl) (by kernel_rfl) (by kernel_rfl) (Pl.aj ?_ (Pl.aj ?_ (Pl.aj ?_ Pl.aJ)))
     · refine Pl.ah rfl rfl rfl rfl rfl mX ?_
       refine Calls.mono (iA _ _ 1 k (U.one wJ) (by omega) (Nat.le_trans (Sz.lit (z:=1) (K:=1) (by decide) (by decide)) (by decide)) _ rfl) ?_
       rintro e w5 ⟨ZL,rfl,wK,dx⟩
       have hS5:=Ext.below dP dx
       refine ⟨_,rfl,hS5,?_⟩
       refine Pl.af ?_
       refine Pl.cB [5,11,12] 10 (by kernel_rfl) (by kernel_rfl) (by kernel_rfl) (Pl.aj ?_ (Pl.aj ?_ (Pl.aj ?_ Pl.aJ)))
       · refine Pl.ah rfl rfl rfl rfl rfl jm ?_
         refine Calls.mono (dL _ false _ (limbs (1*2^k)) wK (by rw [Nat.one_mul];exact Nat.le_trans (dQ (M:=40) (by omega)) (by decide)) _ (aI _) ((2:Int)^k) (eD k)) ?_
         rintro e w6 ⟨wH,rfl,jo,bU⟩
         have bS:=Ext.below hS5 bU
         refine ⟨_,rfl,bS,?_⟩
         have lY:Sz ((2:Int)^k) 40:=Sz.two (by omega)
         refine Pl.af ?_
         refine Pl.cB [6,11,12] 9 (by kernel_rfl) (by kernel_rfl) (by kernel_rfl) (Pl.aj ?_ (Pl.aj ?_ (Pl.aj ?_ Pl.aJ)))
         · have FM:=Zn.below ha (Ext.below hB1 (Ext.below hB2 (Ext.below hB3 (Ext.below hB4 (Ext.below dx bU)))))
           refine Pl.ah rfl rfl rfl rfl rfl gy ?_
           refine Calls.mono (bZ _ _ _ a ((2:Int)^k) FM jo (Sz.le hl (by decide)) (Sz.le lY (by decide)) (aS k) (shl a (-((k:Nat):Int))) _ (bX a k).symm rfl) ?_
           rintro e w7 ⟨⟨ow,jN,rfl,jO,iX⟩,bO⟩
           have bE:=Ext.below bS bO
           refine ⟨_,rfl,bE,?_⟩
           have gI:Sz (a/((2:Int)^k)) 100:=Sz.div hl
           have gJ:Sz (a%((2:Int)^k)) 40:=Sz.mod lY (aS k)
           refine Pl.af ?_
           refine Pl.aZ [(true,7,127),(true,8,255),(true,9,511),(true,10,1023)] 2047 5 Pl.az (by kernel_rfl) (by kernel_rfl) (by kernel_rfl) ?_
           refine Pl.bN bE rfl rfl rfl rfl rfl ?_
           refine Pl.ak bE rfl rfl rfl rfl rfl rfl ?_
           refine Pl.ak bE rfl rfl rfl rfl rfl rfl ?_
           refine Pl.ak bE rfl rfl rfl rfl rfl rfl ?_
           refine Pl.af ?_
           refine Pl.cB [11,12] 4 (by kernel_rfl) (by kernel_rfl) (by kernel_rfl) (Pl.aj ?_ (Pl.aj ?_ Pl.aJ))
           · refine bP rfl rfl rfl rfl (fun _ k=>Ext.below bE k) ?_
             intro N9 w8 bF ym FN
             have bD:=Ext.below bE bF
             refine Pl.af ?_
             refine Pl.aZ [(false,12,4095)] 8191 3 Pl.az (by kernel_rfl) (by kernel_rfl) (by kernel_rfl) ?_
             refine bP rfl rfl rfl rfl (fun _ k=>Ext.below bD k) ?_
             intro rM w9 bW jA sD
             have bK:=Ext.below bD bW
             refine Pl.af ?_
             have sF:=Ib.ext FN bW
             have pR:=Zn.below jO (Ext.below bF bW)
             have jC:=Zn.below iX (Ext.below bF bW)
             exact Pl.aW [(4,.pointer (some ⟨N2,0,none⟩)),(5,.pointer (some ⟨N9,0,none⟩)),(6,.pointer (some ⟨rM,0,none⟩)),(25,ow),(26,jN),(27,(.int .i64 0))] (Pl.aa rfl (Pl.aa rfl (Pl.aa rfl (Pl.aa rfl (Pl.aa rfl (Pl.aa rfl Pl.aA)))))) (hK _ _ ⟨N9,rM,ow,jN,rfl,(Ext.below hB3 (Ext.below hB4 (Ext.below dx (Ext.below bU (Ext.below bO (Ext.below bF bW)))))),(Nat.le_trans (Below.size (Ext.below hB3 (Ext.below hB4 (Ext.below dx (Ext.below bU bO))))) ym),sF,(Nat.le_trans (Below.size (Ext.below hB3 (Ext.below hB4 (Ext.below dx (Ext.below bU (Ext.below bO bF)))))) jA),sD,pR,jC,(Nat.ne_of_lt (Nat.lt_of_lt_of_le (FN).1 jA))⟩)
           · refine bP rfl rfl rfl rfl (fun _ k=>Ext.below bE k) ?_
             intro N9 w8 bF ym FN
             have bD:=Ext.below bE bF
             refine Pl.af ?_
             refine Pl.aZ [(false,11,6143)] 8191 3 Pl.az (by kernel_rfl) (by kernel_rfl) (by kernel_rfl) ?_
             refine bP rfl rfl rfl rfl (fun _ k=>Ext.below bD k) ?_
             intro rM w9 bW jA sD
             have bK:=Ext.below bD bW
             refine Pl.af ?_
             have sF:=Ib.ext FN bW
             have pR:=Zn.below jO (Ext.below bF bW)
             have jC:=Zn.below iX (Ext.below bF bW)
             exact Pl.aW [(4,.pointer (some ⟨N2,0,none⟩)),(5,.pointer (some ⟨rM,0,none⟩)),(6,.pointer (some ⟨N9,0,none⟩)),(25,ow),(26,jN),(27,(.int .i64 0))] (Pl.aa rfl (Pl.aa rfl (Pl.aa rfl (Pl.aa rfl (Pl.aa rfl (Pl.aa rfl Pl.aA)))))) (hK _ _ ⟨rM,N9,ow,jN,rfl,(Ext.below hB3 (Ext.below hB4 (Ext.below dx (Ext.below bU (Ext.below bO (Ext.below bF bW)))))),(Nat.le_trans (Below.size (Ext.below hB3 (Ext.below hB4 (Ext.below dx (Ext.below bU (Ext.below bO bF)))))) jA),sD,(Nat.le_trans (Below.size (Ext.below hB3 (Ext.below hB4 (Ext.below dx (Ext.below bU bO))))) ym),sF,pR,jC,(Nat.ne_of_gt (Nat.lt_of_lt_of_le (FN).1 jA))⟩)
         · refine bP rfl rfl rfl rfl (fun _ k=>Ext.below bS k) ?_
           intro N6 w7 bO iL qY
           have bE:=Ext.below bS bO
           refine Pl.af ?_
           refine Pl.cB [6,12] 8 (by kernel_rfl) (by kernel_rfl) (by kernel_rfl) (Pl.aj ?_ (Pl.aj ?_ Pl.aJ))
           · have iP:=Zn.below ha (Ext.below hB1 (Ext.below hB2 (Ext.below hB3 (Ext.below hB4 (Ext.below dx (Ext.below bU bO))))))
             have gz:=Zn.below jo bO
             refine Pl.ah rfl rfl rfl rfl rfl gy ?_
             refine Calls.mono (bZ _ _ _ a ((2:Int)^k) iP gz (Sz.le hl (by decide)) (Sz.le lY (by decide)) (aS k) (shl a (-((k:Nat):Int))) _ (bX a k).symm rfl) ?_
             rintro e w8 ⟨⟨fK,bG,rfl,iQ,dH⟩,bF⟩
             have bD:=Ext.below bE bF
             refine ⟨_,rfl,bD,?_⟩
             have kP:Sz (a/((2:Int)^k)) 100:=Sz.div hl
             have gB:Sz (a%((2:Int)^k)) 40:=Sz.mod lY (aS k)
             refine Pl.af ?_
             refine Pl.aZ [(true,7,2175),(true,8,2303),(true,9,2559),(true,10,3071),(false,12,4095)] 8191 3 Pl.az (by kernel_rfl) (by kernel_rfl) (by kernel_rfl) ?_
             refine Pl.bN bD rfl rfl rfl rfl rfl ?_
             refine Pl.ak bD rfl rfl rfl rfl rfl rfl ?_
             refine Pl.ak bD rfl rfl rfl rfl rfl rfl ?_
             refine Pl.ak bD rfl rfl rfl rfl rfl rfl ?_
             refine bP rfl rfl rfl rfl (fun _ k=>Ext.below bD k) ?_
             intro mo w9 bW gp nH
             have bK:=Ext.below bD bW
             refine Pl.af ?_
             have fM:=Ib.ext qY (Ext.below bF bW)
             have eF:=Zn.below iQ bW
             have eZ:=Zn.below dH bW
             exact Pl.aW [(4,.pointer (some ⟨N2,0,none⟩)),(5,.pointer (some ⟨N6,0,none⟩)),(6,.pointer (some ⟨mo,0,none⟩)),(25,fK),(26,bG),(27,(.int .i64 0))] (Pl.aa rfl (Pl.aa rfl (Pl.aa rfl (Pl.aa rfl (Pl.aa rfl (Pl.aa rfl Pl.aA)))))) (hK _ _ ⟨N6,mo,fK,bG,rfl,(Ext.below hB3 (Ext.below hB4 (Ext.below dx (Ext.below bU (Ext.below bO (Ext.below bF bW)))))),(Nat.le_trans (Below.size (Ext.below hB3 (Ext.below hB4 (Ext.below dx bU)))) iL),fM,(Nat.le_trans (Below.size (Ext.below hB3 (Ext.below hB4 (Ext.below dx (Ext.below bU (Ext.below bO bF)))))) gp),nH,eF,eZ,(Nat.ne_of_lt (Nat.lt_of_lt_of_le (Ib.ext qY bF).1 gp))⟩)
           · refine bP rfl rfl rfl rfl (fun _ k=>Ext.below bE k) ?_
             intro N7 w8 bF jL wL
             have bD:=Ext.below bE bF
             refine Pl.af ?_
             refine Pl.aZ [(false,6,6207),(true,7,6271),(true,8,6399),(true,9,6655),(true,10,7167)] 8191 3 Pl.az (by kernel_rfl) (by kernel_rfl) (by kernel_rfl) ?_
             have dI:=Zn.below ha (Ext.below hB1 (Ext.below hB2 (Ext.below hB3 (Ext.below hB4 (Ext.below dx (Ext.below bU (Ext.below bO bF)))))))
             have pU:=Zn.below jo (Ext.below bO bF)
             refine Pl.ah rfl rfl rfl rfl rfl gy ?_
             refine Calls.mono (bZ _ _ _ a ((2:Int)^k) dI pU (Sz.le hl (by decide)) (Sz.le lY (by decide)) (aS k) (shl a (-((k:Nat):Int))) _ (bX a k).symm rfl) ?_
             rintro e w9 ⟨⟨bG,bV,rfl,dH,dM⟩,bW⟩
             have bK:=Ext.below bD bW
             refine ⟨_,rfl,bK,?_⟩
             have gB:Sz (a/((2:Int)^k)) 100:=Sz.div hl
             have gQ:Sz (a%((2:Int)^k)) 40:=Sz.mod lY (aS k)
             refine Pl.bN bK rfl rfl rfl rfl rfl ?_
             refine Pl.ak bK rfl rfl rfl rfl rfl rfl ?_
             refine Pl.ak bK rfl rfl rfl rfl rfl rfl ?_
             refine Pl.ak bK rfl rfl rfl rfl rfl rfl ?_
             refine Pl.af ?_
             have fM:=Ib.ext qY (Ext.below bF bW)
             have iR:=Ib.ext wL bW
             exact Pl.aW [(4,.pointer (some ⟨N2,0,none⟩)),(5,.pointer (some ⟨N6,0,none⟩)),(6,.pointer (some ⟨N7,0,none⟩)),(25,bG),(26,bV),(27,(.int .i64 0))] (Pl.aa rfl (Pl.aa rfl (Pl.aa rfl (Pl.aa rfl (Pl.aa rfl (Pl.aa rfl Pl.aA)))))) (hK _ _ ⟨N6,N7,bG,bV,rfl,(Ext.below hB3 (Ext.below hB4 (Ext.below dx (Ext.below bU (Ext.below bO (Ext.below bF bW)))))),(Nat.le_trans (Below.size (Ext.below hB3 (Ext.below hB4 (Ext.below dx bU)))) iL),fM,(Nat.le_trans (Below.size (Ext.below hB3 (Ext.below hB4 (Ext.below dx (Ext.below bU bO))))) jL),iR,dH,dM,(Nat.ne_of_lt (Nat.lt_of_lt_of_le (qY).1 jL))⟩)
         · refine bP rfl rfl rfl rfl (fun _ k=>Ext.below bS k) ?_
           intro N6 w7 bO iL qY
           have bE:=Ext.below bS bO
           refine Pl.af ?_
           refine Pl.cB [6,11] 8 (by kernel_rfl) (by kernel_rfl) (by kernel_rfl) (Pl.aj ?_ (Pl.aj ?_ Pl.aJ))
           · have iP:=Zn.below ha (Ext.below hB1 (Ext.below hB2 (Ext.below hB3 (Ext.below hB4 (Ext.below dx (Ext.below bU bO))))))
             have gz:=Zn.below jo bO
             refine Pl.ah rfl rfl rfl rfl rfl gy ?_
             refine Calls.mono (bZ _ _ _ a ((2:Int)^k) iP gz (Sz.le hl (by decide)) (Sz.le lY (by decide)) (aS k) (shl a (-((k:Nat):Int))) _ (bX a k).symm rfl) ?_
             rintro e w8 ⟨⟨fK,bG,rfl,iQ,dH⟩,bF⟩
             have bD:=Ext.below bE bF
             refine ⟨_,rfl,bD,?_⟩
             have kP:Sz (a/((2:Int)^k)) 100:=Sz.div hl
             have gB:Sz (a%((2:Int)^k)) 40:=Sz.mod lY (aS k)
             refine Pl.af ?_
             refine Pl.aZ [(true,7,4223),(true,8,4351),(true,9,4607),(true,10,5119),(false,11,6143)] 8191 3 Pl.az (by kernel_rfl) (by kernel_rfl) (by kernel_rfl) ?_
             refine Pl.bN bD rfl rfl rfl rfl rfl ?_
             refine Pl.ak bD rfl rfl rfl rfl rfl rfl ?_
             refine Pl.ak bD rfl rfl rfl rfl rfl rfl ?_
             refine Pl.ak bD rfl rfl rfl rfl rfl rfl ?_
             refine bP rfl rfl rfl rfl (fun _ k=>Ext.below bD k) ?_
             intro mo w9 bW gp nH
             have bK:=Ext.below bD bW
             refine Pl.af ?_
             have fM:=Ib.ext qY (Ext.below bF bW)
             have eF:=Zn.below iQ bW
             have eZ:=Zn.below dH bW
             exact Pl.aW [(4,.pointer (some ⟨N2,0,none⟩)),(5,.pointer (some ⟨mo,0,none⟩)),(6,.pointer (some ⟨N6,0,none⟩)),(25,fK),(26,bG),(27,(.int .i64 0))] (Pl.aa rfl (Pl.aa rfl (Pl.aa rfl (Pl.aa rfl (Pl.aa rfl (Pl.aa rfl Pl.aA)))))) (hK _ _ ⟨mo,N6,fK,bG,rfl,(Ext.below hB3 (Ext.below hB4 (Ext.below dx (Ext.below bU (Ext.below bO (Ext.below bF bW)))))),(Nat.le_trans (Below.size (Ext.below hB3 (Ext.below hB4 (Ext.below dx (Ext.below bU (Ext.below bO bF)))))) gp),nH,(Nat.le_trans (Below.size (Ext.below hB3 (Ext.below hB4 (Ext.below dx bU)))) iL),fM,eF,eZ,(Nat.ne_of_gt (Nat.lt_of_lt_of_le (Ib.ext qY bF).1 gp))⟩)
           · refine bP rfl rfl rfl rfl (fun _ k=>Ext.below bE k) ?_
             intro N7 w8 bF jL wL
             have bD:=Ext.below bE bF
             refine Pl.af ?_
             refine Pl.aZ [(false,6,6207),(true,7,6271),(true,8,6399),(true,9,6655),(true,10,7167)] 8191 3 Pl.az (by kernel_rfl) (by kernel_rfl) (by kernel_rfl) ?_
             have dI:=Zn.below ha (Ext.below hB1 (Ext.below hB2 (Ext.below hB3 (Ext.below hB4 (Ext.below dx (Ext.below bU (Ext.below bO bF)))))))
             have pU:=Zn.below jo (Ext.below bO bF)
             refine Pl.ah rfl rfl rfl rfl rfl gy ?_
             refine Calls.mono (bZ _ _ _ a ((2:Int)^k) dI pU (Sz.le hl (by decide)) (Sz.le lY (by decide)) (aS k) (shl a (-((k:Nat):Int))) _ (bX a k).symm rfl) ?_
             rintro e w9 ⟨⟨bG,bV,rfl,dH,dM⟩,bW⟩
             have bK:=Ext.below bD bW
             refine ⟨_,rfl,bK,?_⟩
             have gB:Sz (a/((2:Int)^k)) 100:=Sz.div hl
             have gQ:Sz (a%((2:Int)^k)) 40:=Sz.mod lY (aS k)
             refine Pl.bN bK rfl rfl rfl rfl rfl ?_
             refine Pl.ak bK rfl rfl rfl rfl rfl rfl ?_
             refine Pl.ak bK rfl rfl rfl rfl rfl rfl ?_
             refine Pl.ak bK rfl rfl rfl rfl rfl rfl ?_
             refine Pl.af ?_
             have iR:=Ib.ext wL bW
             have fM:=Ib.ext qY (Ext.below bF bW)
             exact Pl.aW [(4,.pointer (some ⟨N2,0,none⟩)),(5,.pointer (some ⟨N7,0,none⟩)),(6,.pointer (some ⟨N6,0,none⟩)),(25,bG),(26,bV),(27,(.int .i64 0))] (Pl.aa rfl (Pl.aa rfl (Pl.aa rfl (Pl.aa rfl (Pl.aa rfl (Pl.aa rfl Pl.aA)))))) (hK _ _ ⟨N7,N6,bG,bV,rfl,(Ext.below hB3 (Ext.below hB4 (Ext.below dx (Ext.below bU (Ext.below bO (Ext.below bF bW)))))),(Nat.le_trans (Below.size (Ext.below hB3 (Ext.below hB4 (Ext.below dx (Ext.below bU bO))))) jL),iR,(Nat.le_trans (Below.size (Ext.below hB3 (Ext.below hB4 (Ext.below dx bU)))) iL),fM,dH,dM,(Nat.ne_of_gt (Nat.lt_of_lt_of_le (qY).1 jL))⟩)
       · refine bP rfl rfl rfl rfl (fun _ k=>Ext.below hS5 k) ?_
         intro N5 w6 bU iy oz
         have bS:=Ext.below hS5 bU
         refine Pl.af ?_
         refine Pl.cB [5,12] 9 (by kernel_rfl) (by kernel_rfl) (by kernel_rfl) (Pl.aj ?_ (Pl.aj ?_ Pl.aJ))
         · have pV:=Un.below wK bU
           refine Pl.ah rfl rfl rfl rfl rfl jm ?_
           refine Calls.mono (dL _ false _ (limbs (1*2^k)) pV (by rw [Nat.one_mul];exact Nat.le_trans (dQ (M:=40) (by omega)) (by decide)) _ (aI _) ((2:Int)^k) (eD k)) ?_
           rintro e w7 ⟨ow,rfl,jO,bO⟩
           have bE:=Ext.below bS bO
           refine ⟨_,rfl,bE,?_⟩
           have gI:Sz ((2:Int)^k) 40:=Sz.two (by omega)
           refine Pl.af ?_
           refine Pl.cB [6,12] 8 (by kernel_rfl) (by kernel_rfl) (by kernel_rfl) (Pl.aj ?_ (Pl.aj ?_ Pl.aJ))
           · have iP:=Zn.below ha (Ext.below hB1 (Ext.below hB2 (Ext.below hB3 (Ext.below hB4 (Ext.below dx (Ext.below bU bO))))))
             refine Pl.ah rfl rfl rfl rfl rfl gy ?_
             refine Calls.mono (bZ _ _ _ a ((2:Int)^k) iP jO (Sz.le hl (by decide)) (Sz.le gI (by decide)) (aS k) (shl a (-((k:Nat):Int))) _ (bX a k).symm rfl) ?_
             rintro e w8 ⟨⟨fK,bG,rfl,iQ,dH⟩,bF⟩
             have bD:=Ext.below bE bF
             refine ⟨_,rfl,bD,?_⟩
             have kP:Sz (a/((2:Int)^k)) 100:=Sz.div hl
             have gB:Sz (a%((2:Int)^k)) 40:=Sz.mod gI (aS k)
             refine Pl.af ?_
             refine Pl.aZ [(true,7,2175),(true,8,2303),(true,9,2559),(true,10,3071),(false,12,4095)] 8191 3 Pl.az (by kernel_rfl) (by kernel_rfl) (by kernel_rfl) ?_
             refine Pl.bN bD rfl rfl rfl rfl rfl ?_
             refine Pl.ak bD rfl rfl rfl rfl rfl rfl ?_
             refine Pl.ak bD rfl rfl rfl rfl rfl rfl ?_
             refine Pl.ak bD rfl rfl rfl rfl rfl rfl ?_
             refine bP rfl rfl rfl rfl (fun _ k=>Ext.below bD k) ?_
             intro mo w9 bW gp nH
             have bK:=Ext.below bD bW
             refine Pl.af ?_
             have eG:=Ib.ext oz (Ext.below bO (Ext.below bF bW))
             have eF:=Zn.below iQ bW
             have eZ:=Zn.below dH bW
             exact Pl.aW [(4,.pointer (some ⟨N2,0,none⟩)),(5,.pointer (some ⟨N5,0,none⟩)),(6,.pointer (some ⟨mo,0,none⟩)),(25,fK),(26,bG),(27,(.int .i64 0))] (Pl.aa rfl (Pl.aa rfl (Pl.aa rfl (Pl.aa rfl (Pl.aa rfl (Pl.aa rfl Pl.aA)))))) (hK _ _ ⟨N5,mo,fK,bG,rfl,(Ext.below hB3 (Ext.below hB4 (Ext.below dx (Ext.below bU (Ext.below bO (Ext.below bF bW)))))),(Nat.le_trans (Below.size (Ext.below hB3 (Ext.below hB4 dx))) iy),eG,(Nat.le_trans (Below.size (Ext.below hB3 (Ext.below hB4 (Ext.below dx (Ext.below bU (Ext.below bO bF)))))) gp),nH,eF,eZ,(Nat.ne_of_lt (Nat.lt_of_lt_of_le (Ib.ext oz (Ext.below bO bF)).1 gp))⟩)
           · refine bP rfl rfl rfl rfl (fun _ k=>Ext.below bE k) ?_
             intro N8 w8 bF mG BL
             have bD:=Ext.below bE bF
             refine Pl.af ?_
             refine Pl.aZ [(false,6,6207),(true,7,6271),(true,8,6399),(true,9,6655),(true,10,7167)] 8191 3 Pl.az (by kernel_rfl) (by kernel_rfl) (by kernel_rfl) ?_
             have dI:=Zn.below ha (Ext.below hB1 (Ext.below hB2 (Ext.below hB3 (Ext.below hB4 (Ext.below dx (Ext.below bU (Ext.below bO bF)))))))
             have jD:=Zn.below jO bF
             refine Pl.ah rfl rfl rfl rfl rfl gy ?_
             refine Calls.mono (bZ _ _ _ a ((2:Int)^k) dI jD (Sz.le hl (by decide)) (Sz.le gI (by decide)) (aS k) (shl a (-((k:Nat):Int))) _ (bX a k).symm rfl) ?_
             rintro e w9 ⟨⟨bV,gT,rfl,dM,jS⟩,bW⟩
             have bK:=Ext.below bD bW
             refine ⟨_,rfl,bK,?_⟩
             have gQ:Sz (a/((2:Int)^k)) 100:=Sz.div hl
             have qZ:Sz (a%((2:Int)^k)) 40:=Sz.mod gI (aS k)
             refine Pl.bN bK rfl rfl rfl rfl rfl ?_
             refine Pl.ak bK rfl rfl rfl rfl rfl rfl ?_
             refine Pl.ak bK rfl rfl rfl rfl rfl rfl ?_
             refine Pl.ak bK rfl rfl rfl rfl rfl rfl ?_
             refine Pl.af ?_
             have eG:=Ib.ext oz (Ext.below bO (Ext.below bF bW))
             have kQ:=Ib.ext BL bW
             exact Pl.aW [(4,.pointer (some ⟨N2,0,none⟩)),(5,.pointer (some ⟨N5,0,none⟩)),(6,.pointer (some ⟨N8,0,none⟩)),(25,bV),(26,gT),(27,(.int .i64 0))] (Pl.aa rfl (Pl.aa rfl (Pl.aa rfl (Pl.aa rfl (Pl.aa rfl (Pl.aa rfl Pl.aA)))))) (hK _ _ ⟨N5,N8,bV,gT,rfl,(Ext.below hB3 (Ext.below hB4 (Ext.below dx (Ext.below bU (Ext.below bO (Ext.below bF bW)))))),(Nat.le_trans (Below.size (Ext.below hB3 (Ext.below hB4 dx))) iy),eG,(Nat.le_trans (Below.size (Ext.below hB3 (Ext.below hB4 (Ext.below dx (Ext.below bU bO))))) mG),kQ,dM,jS,(Nat.ne_of_lt (Nat.lt_of_lt_of_le (Ib.ext oz bO).1 mG))⟩)
         · refine bP rfl rfl rfl rfl (fun _ k=>Ext.below bS k) ?_
           intro N6 w7 bO iL qY
           have bE:=Ext.below bS bO
           refine Pl.af ?_
           refine Pl.aZ [(false,5,6175),(false,6,6207),(true,7,6271),(true,8,6399),(true,9,6655),(true,10,7167)] 8191 3 Pl.az (by kernel_rfl) (by kernel_rfl) (by kernel_rfl) ?_
           have pW:=Un.below wK (Ext.below bU bO)
           refine Pl.ah rfl rfl rfl rfl rfl jm ?_
           refine Calls.mono (dL _ false _ (limbs (1*2^k)) pW (by rw [Nat.one_mul];exact Nat.le_trans (dQ (M:=40) (by omega)) (by decide)) _ (aI _) ((2:Int)^k) (eD k)) ?_
           rintro e w8 ⟨jN,rfl,iX,bF⟩
           have bD:=Ext.below bE bF
           refine ⟨_,rfl,bD,?_⟩
           have gJ:Sz ((2:Int)^k) 40:=Sz.two (by omega)
           have dI:=Zn.below ha (Ext.below hB1 (Ext.below hB2 (Ext.below hB3 (Ext.below hB4 (Ext.below dx (Ext.below bU (Ext.below bO bF)))))))
           refine Pl.ah rfl rfl rfl rfl rfl gy ?_
           refine Calls.mono (bZ _ _ _ a ((2:Int)^k) dI iX (Sz.le hl (by decide)) (Sz.le gJ (by decide)) (aS k) (shl a (-((k:Nat):Int))) _ (bX a k).symm rfl) ?_
           rintro e w9 ⟨⟨bG,bV,rfl,dH,dM⟩,bW⟩
           have bK:=Ext.below bD bW
           refine ⟨_,rfl,bK,?_⟩
           have gB:Sz (a/((2:Int)^k)) 100:=Sz.div hl
           have gQ:Sz (a%((2:Int)^k)) 40:=Sz.mod gJ (aS k)
           refine Pl.bN bK rfl rfl rfl rfl rfl ?_
           refine Pl.ak bK rfl rfl rfl rfl rfl rfl ?_
           refine Pl.ak bK rfl rfl rfl rfl rfl rfl ?_
           refine Pl.ak bK rfl rfl rfl rfl rfl rfl ?_
           refine Pl.af ?_
           have eG:=Ib.ext oz (Ext.below bO (Ext.below bF bW))
           have fM:=Ib.ext qY (Ext.below bF bW)
           exact Pl.aW [(4,.pointer (some ⟨N2,0,none⟩)),(5,.pointer (some ⟨N5,0,none⟩)),(6,.pointer (some ⟨N6,0,none⟩)),(25,bG),(26,bV),(27,(.int .i64 0))] (Pl.aa rfl (Pl.aa rfl (Pl.aa rfl (Pl.aa rfl (Pl.aa rfl (Pl.aa rfl Pl.aA)))))) (hK _ _ ⟨N5,N6,bG,bV,rfl,(Ext.below hB3 (Ext.below hB4 (Ext.below dx (Ext.below bU (Ext.below bO (Ext.below bF bW)))))),(Nat.le_trans (Below.size (Ext.below hB3 (Ext.below hB4 dx))) iy),eG,(Nat.le_trans (Below.size (Ext.below hB3 (Ext.below hB4 (Ext.below dx bU)))) iL),fM,dH,dM,(Nat.ne_of_lt (Nat.lt_of_lt_of_le (oz).1 iL))⟩)
       · refine bP rfl rfl rfl rfl (fun _ k=>Ext.below hS5 k) ?_
         intro N5 w6 bU iy oz
         have bS:=Ext.below hS5 bU
         refine Pl.af ?_
         refine Pl.cB [5,11] 9 (by kernel_rfl) (by kernel_rfl) (by kernel_rfl) (Pl.aj ?_ (Pl.aj ?_ Pl.aJ))
         · have pV:=Un.below wK bU
           refine Pl.ah rfl rfl rfl rfl rfl jm ?_
           refine Calls.mono (dL _ false _ (limbs (1*2^k)) pV (by rw [Nat.one_mul];exact Nat.le_trans (dQ (M:=40) (by omega)) (by decide)) _ (aI _) ((2:Int)^k) (eD k)) ?_
           rintro e w7 ⟨ow,rfl,jO,bO⟩
           have bE:=Ext.below bS bO
           refine ⟨_,rfl,bE,?_⟩
           have gI:Sz ((2:Int)^k) 40:=Sz.two (by omega)
           refine Pl.af ?_
           refine Pl.cB [6,11] 8 (by kernel_rfl) (by kernel_rfl) (by kernel_rfl) (Pl.aj ?_ (Pl.aj ?_ Pl.aJ))
           · have iP:=Zn.below ha (Ext.below hB1 (Ext.below hB2 (Ext.below hB3 (Ext.below hB4 (Ext.below dx (Ext.below bU bO))))))
             refine Pl.ah rfl rfl rfl rfl rfl gy ?_
             refine Calls.mono (bZ _ _ _ a ((2:Int)^k) iP jO (Sz.le hl (by decide)) (Sz.le gI (by decide)) (aS k) (shl a (-((k:Nat):Int))) _ (bX a k).symm rfl) ?_
             rintro e w8 ⟨⟨fK,bG,rfl,iQ,dH⟩,bF⟩
             have bD:=Ext.below bE bF
             refine ⟨_,rfl,bD,?_⟩
             have kP:Sz (a/((2:Int)^k)) 100:=Sz.div hl
             have gB:Sz (a%((2:Int)^k)) 40:=Sz.mod gI (aS k)
             refine Pl.af ?_
             refine Pl.aZ [(true,7,4223),(true,8,4351),(true,9,4607),(true,10,5119),(false,11,6143)] 8191 3 Pl.az (by kernel_rfl) (by kernel_rfl) (by kernel_rfl) ?_
             refine Pl.bN bD rfl rfl rfl rfl rfl ?_
             refine Pl.ak bD rfl rfl rfl rfl rfl rfl ?_
             refine Pl.ak bD rfl rfl rfl rfl rfl rfl ?_
             refine Pl.ak bD rfl rfl rfl rfl rfl rfl ?_
             refine bP rfl rfl rfl rfl (fun _ k=>Ext.below bD k) ?_
             intro mo w9 bW gp nH
             have bK:=Ext.below bD bW
             refine Pl.af ?_
             have eG:=Ib.ext oz (Ext.below bO (Ext.below bF bW))
             have eF:=Zn.below iQ bW
             have eZ:=Zn.below dH bW
             exact Pl.aW [(4,.pointer (some ⟨N2,0,none⟩)),(5,.pointer (some ⟨mo,0,none⟩)),(6,.pointer (some ⟨N5,0,none⟩)),(25,fK),(26,bG),(27,(.int .i64 0))] (Pl.aa rfl (Pl.aa rfl (Pl.aa rfl (Pl.aa rfl (Pl.aa rfl (Pl.aa rfl Pl.aA)))))) (hK _ _ ⟨mo,N5,fK,bG,rfl,(Ext.below hB3 (Ext.below hB4 (Ext.below dx (Ext.below bU (Ext.below bO (Ext.below bF bW)))))),(Nat.le_trans (Below.size (Ext.below hB3 (Ext.below hB4 (Ext.below dx (Ext.below bU (Ext.below bO bF)))))) gp),nH,(Nat.le_trans (Below.size (Ext.below hB3 (Ext.below hB4 dx))) iy),eG,eF,eZ,(Nat.ne_of_gt (Nat.lt_of_lt_of_le (Ib.ext oz (Ext.below bO bF)).1 gp))⟩)
           · refine bP rfl rfl rfl rfl (fun _ k=>Ext.below bE k) ?_
             intro N8 w8 bF mG BL
             have bD:=Ext.below bE bF
             refine Pl.af ?_
             refine Pl.aZ [(false,6,6207),(true,7,6271),(true,8,6399),(true,9,6655),(true,10,7167)] 8191 3 Pl.az (by kernel_rfl) (by kernel_rfl) (by kernel_rfl) ?_
             have dI:=Zn.below ha (Ext.below hB1 (Ext.below hB2 (Ext.below hB3 (Ext.below hB4 (Ext.below dx (Ext.below bU (Ext.below bO bF)))))))
             have jD:=Zn.below jO bF
             refine Pl.ah rfl rfl rfl rfl rfl gy ?_
             refine Calls.mono (bZ _ _ _ a ((2:Int)^k) dI jD (Sz.le hl (by decide)) (Sz.le gI (by decide)) (aS k) (shl a (-((k:Nat):Int))) _ (bX a k).symm rfl) ?_
             rintro e w9 ⟨⟨bV,gT,rfl,dM,jS⟩,bW⟩
             have bK:=Ext.below bD bW
             refine ⟨_,rfl,bK,?_⟩
             have gQ:Sz (a/((2:Int)^k)) 100:=Sz.div hl
             have qZ:Sz (a%((2:Int)^k)) 40:=Sz.mod gI (aS k)
             refine Pl.bN bK rfl rfl rfl rfl rfl ?_
             refine Pl.ak bK rfl rfl rfl rfl rfl rfl ?_
             refine Pl.ak bK rfl rfl rfl rfl rfl rfl ?_
             refine Pl.ak bK rfl rfl rfl rfl rfl rfl ?_
             refine Pl.af ?_
             have kQ:=Ib.ext BL bW
             have eG:=Ib.ext oz (Ext.below bO (Ext.below bF bW))
             exact Pl.aW [(4,.pointer (some ⟨N2,0,none⟩)),(5,.pointer (some ⟨N8,0,none⟩)),(6,.pointer (some ⟨N5,0,none⟩)),(25,bV),(26,gT),(27,(.int .i64 0))] (Pl.aa rfl (Pl.aa rfl (Pl.aa rfl (Pl.aa rfl (Pl.aa rfl (Pl.aa rfl Pl.aA)))))) (hK _ _ ⟨N8,N5,bV,gT,rfl,(Ext.below hB3 (Ext.below hB4 (Ext.below dx (Ext.below bU (Ext.below bO (Ext.below bF bW)))))),(Nat.le_trans (Below.size (Ext.below hB3 (Ext.below hB4 (Ext.below dx (Ext.below bU bO))))) mG),kQ,(Nat.le_trans (Below.size (Ext.below hB3 (Ext.below hB4 dx))) iy),eG,dM,jS,(Nat.ne_of_gt (Nat.lt_of_lt_of_le (Ib.ext oz bO).1 mG))⟩)
         · refine bP rfl rfl rfl rfl (fun _ k=>Ext.below bS k) ?_
           intro N6 w7 bO iL qY
           have bE:=Ext.below bS bO
           refine Pl.af ?_
           refine Pl.aZ [(false,5,6175),(false,6,6207),(true,7,6271),(true,8,6399),(true,9,6655),(true,10,7167)] 8191 3 Pl.az (by kernel_rfl) (by kernel_rfl) (by kernel_rfl) ?_
           have pW:=Un.below wK (Ext.below bU bO)
           refine Pl.ah rfl rfl rfl rfl rfl jm ?_
           refine Calls.mono (dL _ false _ (limbs (1*2^k)) pW (by rw [Nat.one_mul];exact Nat.le_trans (dQ (M:=40) (by omega)) (by decide)) _ (aI _) ((2:Int)^k) (eD k)) ?_
           rintro e w8 ⟨jN,rfl,iX,bF⟩
           have bD:=Ext.below bE bF
           refine ⟨_,rfl,bD,?_⟩
           have gJ:Sz ((2:Int)^k) 40:=Sz.two (by omega)
           have dI:=Zn.below ha (Ext.below hB1 (Ext.below hB2 (Ext.below hB3 (Ext.below hB4 (Ext.below dx (Ext.below bU (Ext.below bO bF)))))))
           refine Pl.ah rfl rfl rfl rfl rfl gy ?_
           refine Calls.mono (bZ _ _ _ a ((2:Int)^k) dI iX (Sz.le hl (by decide)) (Sz.le gJ (by decide)) (aS k) (shl a (-((k:Nat):Int))) _ (bX a k).symm rfl) ?_
           rintro e w9 ⟨⟨bG,bV,rfl,dH,dM⟩,bW⟩
           have bK:=Ext.below bD bW
           refine ⟨_,rfl,bK,?_⟩
           have gB:Sz (a/((2:Int)^k)) 100:=Sz.div hl
           have gQ:Sz (a%((2:Int)^k)) 40:=Sz.mod gJ (aS k)
           refine Pl.bN bK rfl rfl rfl rfl rfl ?_
           refine Pl.ak bK rfl rfl rfl rfl rfl rfl ?_
           refine Pl.ak bK rfl rfl rfl rfl rfl rfl ?_
           refine Pl.ak bK rfl rfl rfl rfl rfl rfl ?_
           refine Pl.af ?_
           have fM:=Ib.ext qY (Ext.below bF bW)
           have eG:=Ib.ext oz (Ext.below bO (Ext.below bF bW))
           exact Pl.aW [(4,.pointer (some ⟨N2,0,none⟩)),(5,.pointer (some ⟨N6,0,none⟩)),(6,.pointer (some ⟨N5,0,none⟩)),(25,bG),(26,bV),(27,(.int .i64 0))] (Pl.aa rfl (Pl.aa rfl (Pl.aa rfl (Pl.aa rfl (Pl.aa rfl (Pl.aa rfl Pl.aA)))))) (hK _ _ ⟨N6,N5,bG,bV,rfl,(Ext.below hB3 (Ext.below hB4 (Ext.below dx (Ext.below bU (Ext.below bO (Ext.below bF bW)))))),(Nat.le_trans (Below.size (Ext.below hB3 (Ext.below hB4 (Ext.below dx bU)))) iL),fM,(Nat.le_trans (Below.size (Ext.below hB3 (Ext.below hB4 dx))) iy),eG,dH,dM,(Nat.ne_of_gt (Nat.lt_of_lt_of_le (oz).1 iL))⟩)
     · refine bP rfl rfl rfl rfl (fun _ k=>Ext.below dP k) ?_
       intro N4 w5 dx fE oC
       have hS5:=Ext.below dP dx
       refine Pl.af ?_
       refine Pl.cB [4,12] 10 (by kernel_rfl) (by kernel_rfl) (by kernel_rfl) (Pl.aj ?_ (Pl.aj ?_ Pl.aJ))
       · have pX:=U.below wJ dx
         refine Pl.ah rfl rfl rfl rfl rfl mX ?_
         refine Calls.mono (iA _ _ 1 k (U.one pX) (by omega) (Nat.le_trans (Sz.lit (z:=1) (K:=1) (by decide) (by decide)) (by decide)) _ rfl) ?_
         rintro e w6 ⟨wH,rfl,jo,bU⟩
         have bS:=Ext.below hS5 bU
         refine ⟨_,rfl,bS,?_⟩
         refine Pl.af ?_
         refine Pl.cB [5,12] 9 (by kernel_rfl) (by kernel_rfl) (by kernel_rfl) (Pl.aj ?_ (Pl.aj ?_ Pl.aJ))
         · refine Pl.ah rfl rfl rfl rfl rfl jm ?_
           refine Calls.mono (dL _ false _ (limbs (1*2^k)) jo (by rw [Nat.one_mul];exact Nat.le_trans (dQ (M:=40) (by omega)) (by decide)) _ (aI _) ((2:Int)^k) (eD k)) ?_
           rintro e w7 ⟨ow,rfl,jO,bO⟩
           have bE:=Ext.below bS bO
           refine ⟨_,rfl,bE,?_⟩
           have gI:Sz ((2:Int)^k) 40:=Sz.two (by omega)
           refine Pl.af ?_
           refine Pl.cB [6,12] 8 (by kernel_rfl) (by kernel_rfl) (by kernel_rfl) (Pl.aj ?_ (Pl.aj ?_ Pl.aJ))
           · have iP:=Zn.below ha (Ext.below hB1 (Ext.below hB2 (Ext.below hB3 (Ext.below hB4 (Ext.below dx (Ext.below bU bO))))))
             refine Pl.ah rfl rfl rfl rfl rfl gy ?_
             refine Calls.mono (bZ _ _ _ a ((2:Int)^k) iP jO (Sz.le hl (by decide)) (Sz.le gI (by decide)) (aS k) (shl a (-((k:Nat):Int))) _ (bX a k).symm rfl) ?_
             rintro e w8 ⟨⟨fK,bG,rfl,iQ,dH⟩,bF⟩
             have bD:=Ext.below bE bF
             refine ⟨_,rfl,bD,?_⟩
             have kP:Sz (a/((2:Int)^k)) 100:=Sz.div hl
             have gB:Sz (a%((2:Int)^k)) 40:=Sz.mod gI (aS k)
             refine Pl.af ?_
             refine Pl.aZ [(true,7,2175),(true,8,2303),(true,9,2559),(true,10,3071),(false,12,4095)] 8191 3 Pl.az (by kernel_rfl) (by kernel_rfl) (by kernel_rfl) ?_
             refine Pl.bN bD rfl rfl rfl rfl rfl ?_
             refine Pl.ak bD rfl rfl rfl rfl rfl rfl ?_
             refine Pl.ak bD rfl rfl rfl rfl rfl rfl ?_
             refine Pl.ak bD rfl rfl rfl rfl rfl rfl ?_
             refine bP rfl rfl rfl rfl (fun _ k=>Ext.below bD k) ?_
             intro mo w9 bW gp nH
             have bK:=Ext.below bD bW
             refine Pl.af ?_
             have eH:=Ib.ext oC (Ext.below bU (Ext.below bO (Ext.below bF bW)))
             have eF:=Zn.below iQ bW
             have eZ:=Zn.below dH bW
             exact Pl.aW [(4,.pointer (some ⟨N2,0,none⟩)),(5,.pointer (some ⟨N4,0,none⟩)),(6,.pointer (some ⟨mo,0,none⟩)),(25,fK),(26,bG),(27,(.int .i64 0))] (Pl.aa rfl (Pl.aa rfl (Pl.aa rfl (Pl.aa rfl (Pl.aa rfl (Pl.aa rfl Pl.aA)))))) (hK _ _ ⟨N4,mo,fK,bG,rfl,(Ext.below hB3 (Ext.below hB4 (Ext.below dx (Ext.below bU (Ext.below bO (Ext.below bF bW)))))),(Nat.le_trans (Below.size (Ext.below hB3 hB4)) fE),eH,(Nat.le_trans (Below.size (Ext.below hB3 (Ext.below hB4 (Ext.below dx (Ext.below bU (Ext.below bO bF)))))) gp),nH,eF,eZ,(Nat.ne_of_lt (Nat.lt_of_lt_of_le (Ib.ext oC (Ext.below bU (Ext.below bO bF))).1 gp))⟩)
           · refine bP rfl rfl rfl rfl (fun _ k=>Ext.below bE k) ?_
             intro N8 w8 bF mG BL
             have bD:=Ext.below bE bF
             refine Pl.af ?_
             refine Pl.aZ [(false,6,6207),(true,7,6271),(true,8,6399),(true,9,6655),(true,10,7167)] 8191 3 Pl.az (by kernel_rfl) (by kernel_rfl) (by kernel_rfl) ?_
             have dI:=Zn.below ha (Ext.below hB1 (Ext.below hB2 (Ext.below hB3 (Ext.below hB4 (Ext.below dx (Ext.below bU (Ext.below bO bF)))))))
             have jD:=Zn.below jO bF
             refine Pl.ah rfl rfl rfl rfl rfl gy ?_
             refine Calls.mono (bZ _ _ _ a ((2:Int)^k) dI jD (Sz.le hl (by decide)) (Sz.le gI (by decide)) (aS k) (shl a (-((k:Nat):Int))) _ (bX a k).symm rfl) ?_
             rintro e w9 ⟨⟨bV,gT,rfl,dM,jS⟩,bW⟩
             have bK:=Ext.below bD bW
             refine ⟨_,rfl,bK,?_⟩
             have gQ:Sz (a/((2:Int)^k)) 100:=Sz.div hl
             have qZ:Sz (a%((2:Int)^k)) 40:=Sz.mod gI (aS k)
             refine Pl.bN bK rfl rfl rfl rfl rfl ?_
             refine Pl.ak bK rfl rfl rfl rfl rfl rfl ?_
             refine Pl.ak bK rfl rfl rfl rfl rfl rfl ?_
             refine Pl.ak bK rfl rfl rfl rfl rfl rfl ?_
             refine Pl.af ?_
             have eH:=Ib.ext oC (Ext.below bU (Ext.below bO (Ext.below bF bW)))
             have kQ:=Ib.ext BL bW
             exact Pl.aW [(4,.pointer (some ⟨N2,0,none⟩)),(5,.pointer (some ⟨N4,0,none⟩)),(6,.pointer (some ⟨N8,0,none⟩)),(25,bV),(26,gT),(27,(.int .i64 0))] (Pl.aa rfl (Pl.aa rfl (Pl.aa rfl (Pl.aa rfl (Pl.aa rfl (Pl.aa rfl Pl.aA)))))) (hK _ _ ⟨N4,N8,bV,gT,rfl,(Ext.below hB3 (Ext.below hB4 (Ext.below dx (Ext.below bU (Ext.below bO (Ext.below bF bW)))))),(Nat.le_trans (Below.size (Ext.below hB3 hB4)) fE),eH,(Nat.le_trans (Below.size (Ext.below hB3 (Ext.below hB4 (Ext.below dx (Ext.below bU bO))))) mG),kQ,dM,jS,(Nat.ne_of_lt (Nat.lt_of_lt_of_le (Ib.ext oC (Ext.below bU bO)).1 mG))⟩)
         · refine bP rfl rfl rfl rfl (fun _ k=>Ext.below bS k) ?_
           intro N7 w7 bO jL wL
           have bE:=Ext.below bS bO
           refine Pl.af ?_
           refine Pl.aZ [(false,5,6175),(false,6,6207),(true,7,6271),(true,8,6399),(true,9,6655),(true,10,7167)] 8191 3 Pl.az (by kernel_rfl) (by kernel_rfl) (by kernel_rfl) ?_
           have gz:=Un.below jo bO
           refine Pl.ah rfl rfl rfl rfl rfl jm ?_
           refine Calls.mono (dL _ false _ (limbs (1*2^k)) gz (by rw [Nat.one_mul];exact Nat.le_trans (dQ (M:=40) (by omega)) (by decide)) _ (aI _) ((2:Int)^k) (eD k)) ?_
           rintro e w8 ⟨fK,rfl,iQ,bF⟩
           have bD:=Ext.below bE bF
           refine ⟨_,rfl,bD,?_⟩
           have kP:Sz ((2:Int)^k) 40:=Sz.two (by omega)
           have dI:=Zn.below ha (Ext.below hB1 (Ext.below hB2 (Ext.below hB3 (Ext.below hB4 (Ext.below dx (Ext.below bU (Ext.below bO bF)))))))
           refine Pl.ah rfl rfl rfl rfl rfl gy ?_
           refine Calls.mono (bZ _ _ _ a ((2:Int)^k) dI iQ (Sz.le hl (by decide)) (Sz.le kP (by decide)) (aS k) (shl a (-((k:Nat):Int))) _ (bX a k).symm rfl) ?_
           rintro e w9 ⟨⟨bV,gT,rfl,dM,jS⟩,bW⟩
           have bK:=Ext.below bD bW
           refine ⟨_,rfl,bK,?_⟩
           have gQ:Sz (a/((2:Int)^k)) 100:=Sz.div hl
           have qZ:Sz (a%((2:Int)^k)) 40:=Sz.mod kP (aS k)
           refine Pl.bN bK rfl rfl rfl rfl rfl ?_
           refine Pl.ak bK rfl rfl rfl rfl rfl rfl ?_
           refine Pl.ak bK rfl rfl rfl rfl rfl rfl ?_
           refine Pl.ak bK rfl rfl rfl rfl rfl rfl ?_
           refine Pl.af ?_
           have eH:=Ib.ext oC (Ext.below bU (Ext.below bO (Ext.below bF bW)))
           have iR:=Ib.ext wL (Ext.below bF bW)
           exact Pl.aW [(4,.pointer (some ⟨N2,0,none⟩)),(5,.pointer (some ⟨N4,0,none⟩)),(6,.pointer (some ⟨N7,0,none⟩)),(25,bV),(26,gT),(27,(.int .i64 0))] (Pl.aa rfl (Pl.aa rfl (Pl.aa rfl (Pl.aa rfl (Pl.aa rfl (Pl.aa rfl Pl.aA)))))) (hK _ _ ⟨N4,N7,bV,gT,rfl,(Ext.below hB3 (Ext.below hB4 (Ext.below dx (Ext.below bU (Ext.below bO (Ext.below bF bW)))))),(Nat.le_trans (Below.size (Ext.below hB3 hB4)) fE),eH,(Nat.le_trans (Below.size (Ext.below hB3 (Ext.below hB4 (Ext.below dx bU)))) jL),iR,dM,jS,(Nat.ne_of_lt (Nat.lt_of_lt_of_le (Ib.ext oC bU).1 jL))⟩)
       · refine bP rfl rfl rfl rfl (fun _ k=>Ext.below hS5 k) ?_
         intro N5 w6 bU iy oz
         have bS:=Ext.below hS5 bU
         refine Pl.af ?_
         refine Pl.aZ [(false,4,6159),(false,5,6175),(false,6,6207),(true,7,6271),(true,8,6399),(true,9,6655),(true,10,7167)] 8191 3 Pl.az (by kernel_rfl) (by kernel_rfl) (by kernel_rfl) ?_
         have pY:=U.below wJ (Ext.below dx bU)
         refine Pl.ah rfl rfl rfl rfl rfl mX ?_
         refine Calls.mono (iA _ _ 1 k (U.one pY) (by omega) (Nat.le_trans (Sz.lit (z:=1) (K:=1) (by decide) (by decide)) (by decide)) _ rfl) ?_
         rintro e w7 ⟨sG,rfl,jT,bO⟩
         have bE:=Ext.below bS bO
         refine ⟨_,rfl,bE,?_⟩
         refine Pl.ah rfl rfl rfl rfl rfl jm ?_
         refine Calls.mono (dL _ false _ (limbs (1*2^k)) jT (by rw [Nat.one_mul];exact Nat.le_trans (dQ (M:=40) (by omega)) (by decide)) _ (aI _) ((2:Int)^k) (eD k)) ?_
         rintro e w8 ⟨jN,rfl,iX,bF⟩
         have bD:=Ext.below bE bF
         refine ⟨_,rfl,bD,?_⟩
         have gJ:Sz ((2:Int)^k) 40:=Sz.two (by omega)
         have dI:=Zn.below ha (Ext.below hB1 (Ext.below hB2 (Ext.below hB3 (Ext.below hB4 (Ext.below dx (Ext.below bU (Ext.below bO bF)))))))
         refine Pl.ah rfl rfl rfl rfl rfl gy ?_
         refine Calls.mono (bZ _ _ _ a ((2:Int)^k) dI iX (Sz.le hl (by decide)) (Sz.le gJ (by decide)) (aS k) (shl a (-((k:Nat):Int))) _ (bX a k).symm rfl) ?_
         rintro e w9 ⟨⟨bG,bV,rfl,dH,dM⟩,bW⟩
         have bK:=Ext.below bD bW
         refine ⟨_,rfl,bK,?_⟩
         have gB:Sz (a/((2:Int)^k)) 100:=Sz.div hl
         have gQ:Sz (a%((2:Int)^k)) 40:=Sz.mod gJ (aS k)
         refine Pl.bN bK rfl rfl rfl rfl rfl ?_
         refine Pl.ak bK rfl rfl rfl rfl rfl rfl ?_
         refine Pl.ak bK rfl rfl rfl rfl rfl rfl ?_
         refine Pl.ak bK rfl rfl rfl rfl rfl rfl ?_
         refine Pl.af ?_
         have eH:=Ib.ext oC (Ext.below bU (Ext.below bO (Ext.below bF bW)))
         have eG:=Ib.ext oz (Ext.below bO (Ext.below bF bW))
         exact Pl.aW [(4,.pointer (some ⟨N2,0,none⟩)),(5,.pointer (some ⟨N4,0,none⟩)),(6,.pointer (some ⟨N5,0,none⟩)),(25,bG),(26,bV),(27,(.int .i64 0))] (Pl.aa rfl (Pl.aa rfl (Pl.aa rfl (Pl.aa rfl (Pl.aa rfl (Pl.aa rfl Pl.aA)))))) (hK _ _ ⟨N4,N5,bG,bV,rfl,(Ext.below hB3 (Ext.below hB4 (Ext.below dx (Ext.below bU (Ext.below bO (Ext.below bF bW)))))),(Nat.le_trans (Below.size (Ext.below hB3 hB4)) fE),eH,(Nat.le_trans (Below.size (Ext.below hB3 (Ext.below hB4 dx))) iy),eG,dH,dM,(Nat.ne_of_lt (Nat.lt_of_lt_of_le (oC).1 iy))⟩)
     · refine bP rfl rfl rfl rfl (fun _ k=>Ext.below dP k) ?_
       intro N4 w5 dx fE oC
       have hS5:=Ext.below dP dx
       refine Pl.af ?_
       refine Pl.cB [4,11] 10 (by kernel_rfl) (by kernel_rfl) (by kernel_rfl) (Pl.aj ?_ (Pl.aj ?_ Pl.aJ))
       · have pX:=U.below wJ dx
         refine Pl.ah rfl rfl rfl rfl rfl mX ?_
         refine Calls.mono (iA _ _ 1 k (U.one pX) (by omega) (Nat.le_trans (Sz.lit (z:=1) (K:=1) (by decide) (by decide)) (by decide)) _ rfl) ?_
         rintro e w6 ⟨wH,rfl,jo,bU⟩
         have bS:=Ext.below hS5 bU
         refine ⟨_,rfl,bS,?_⟩
         refine Pl.af ?_
         refine Pl.cB [5,11] 9 (by kernel_rfl) (by kernel_rfl) (by kernel_rfl) (Pl.aj ?_ (Pl.aj ?_ Pl.aJ))
         · refine Pl.ah rfl rfl rfl rfl rfl jm ?_
           refine Calls.mono (dL _ false _ (limbs (1*2^k)) jo (by rw [Nat.one_mul];exact Nat.le_trans (dQ (M:=40) (by omega)) (by decide)) _ (aI _) ((2:Int)^k) (eD k)) ?_
           rintro e w7 ⟨ow,rfl,jO,bO⟩
           have bE:=Ext.below bS bO
           refine ⟨_,rfl,bE,?_⟩
           have gI:Sz ((2:Int)^k) 40:=Sz.two (by omega)
           refine Pl.af ?_
           refine Pl.cB [6,11] 8 (by kernel_rfl) (by kernel_rfl) (by kernel_rfl) (Pl.aj ?_ (Pl.aj ?_ Pl.aJ))
           · have iP:=Zn.below ha (Ext.below hB1 (Ext.below hB2 (Ext.below hB3 (Ext.below hB4 (Ext.below dx (Ext.below bU bO))))))
             refine Pl.ah rfl rfl rfl rfl rfl gy ?_
             refine Calls.mono (bZ _ _ _ a ((2:Int)^k) iP jO (Sz.le hl (by decide)) (Sz.le gI (by decide)) (aS k) (shl a (-((k:Nat):Int))) _ (bX a k).symm rfl) ?_
             rintro e w8 ⟨⟨fK,bG,rfl,iQ,dH⟩,bF⟩
             have bD:=Ext.below bE bF
             refine ⟨_,rfl,bD,?_⟩
             have kP:Sz (a/((2:Int)^k)) 100:=Sz.div hl
             have gB:Sz (a%((2:Int)^k)) 40:=Sz.mod gI (aS k)
             refine Pl.af ?_
             refine Pl.aZ [(true,7,4223),(true,8,4351),(true,9,4607),(true,10,5119),(false,11,6143)] 8191 3 Pl.az (by kernel_rfl) (by kernel_rfl) (by kernel_rfl) ?_
             refine Pl.bN bD rfl rfl rfl rfl rfl ?_
             refine Pl.ak bD rfl rfl rfl rfl rfl rfl ?_
             refine Pl.ak bD rfl rfl rfl rfl rfl rfl ?_
             refine Pl.ak bD rfl rfl rfl rfl rfl rfl ?_
             refine bP rfl rfl rfl rfl (fun _ k=>Ext.below bD k) ?_
             intro mo w9 bW gp nH
             have bK:=Ext.below bD bW
             refine Pl.af ?_
             have eH:=Ib.ext oC (Ext.below bU (Ext.below bO (Ext.below bF bW)))
             have eF:=Zn.below iQ bW
             have eZ:=Zn.below dH bW
             exact Pl.aW [(4,.pointer (some ⟨N2,0,none⟩)),(5,.pointer (some ⟨mo,0,none⟩)),(6,.pointer (some ⟨N4,0,none⟩)),(25,fK),(26,bG),(27,(.int .i64 0))] (Pl.aa rfl (Pl.aa rfl (Pl.aa rfl (Pl.aa rfl (Pl.aa rfl (Pl.aa rfl Pl.aA)))))) (hK _ _ ⟨mo,N4,fK,bG,rfl,(Ext.below hB3 (Ext.below hB4 (Ext.below dx (Ext.below bU (Ext.below bO (Ext.below bF bW)))))),(Nat.le_trans (Below.size (Ext.below hB3 (Ext.below hB4 (Ext.below dx (Ext.below bU (Ext.below bO bF)))))) gp),nH,(Nat.le_trans (Below.size (Ext.below hB3 hB4)) fE),eH,eF,eZ,(Nat.ne_of_gt (Nat.lt_of_lt_of_le (Ib.ext oC (Ext.below bU (Ext.below bO bF))).1 gp))⟩)
           · refine bP rfl rfl rfl rfl (fun _ k=>Ext.below bE k) ?_
             intro N8 w8 bF mG BL
             have bD:=Ext.below bE bF
             refine Pl.af ?_
             refine Pl.aZ [(false,6,6207),(true,7,6271),(true,8,6399),(true,9,6655),(true,10,7167)] 8191 3 Pl.az (by kernel_rfl) (by kernel_rfl) (by kernel_rfl) ?_
             have dI:=Zn.below ha (Ext.below hB1 (Ext.below hB2 (Ext.below hB3 (Ext.below hB4 (Ext.below dx (Ext.below bU (Ext.below bO bF)))))))
             have jD:=Zn.below jO bF
             refine Pl.ah rfl rfl rfl rfl rfl gy ?_
             refine Calls.mono (bZ _ _ _ a ((2:Int)^k) dI jD (Sz.le hl (by decide)) (Sz.le gI (by decide)) (aS k) (shl a (-((k:Nat):Int))) _ (bX a k).symm rfl) ?_
             rintro e w9 ⟨⟨bV,gT,rfl,dM,jS⟩,bW⟩
             have bK:=Ext.below bD bW
             refine ⟨_,rfl,bK,?_⟩
             have gQ:Sz (a/((2:Int)^k)) 100:=Sz.div hl
             have qZ:Sz (a%((2:Int)^k)) 40:=Sz.mod gI (aS k)
             refine Pl.bN bK rfl rfl rfl rfl rfl ?_
             refine Pl.ak bK rfl rfl rfl rfl rfl rfl ?_
             refine Pl.ak bK rfl rfl rfl rfl rfl rfl ?_
             refine Pl.ak bK rfl rfl rfl rfl rfl rfl ?_
             refine Pl.af ?_
             have kQ:=Ib.ext BL bW
             have eH:=Ib.ext oC (Ext.below bU (Ext.below bO (Ext.below bF bW)))
             exact Pl.aW [(4,.pointer (some ⟨N2,0,none⟩)),(5,.pointer (some ⟨N8,0,none⟩)),(6,.pointer (some ⟨N4,0,none⟩)),(25,bV),(26,gT),(27,(.int .i64 0))] (Pl.aa rfl (Pl.aa rfl (Pl.aa rfl (Pl.aa rfl (Pl.aa rfl (Pl.aa rfl Pl.aA)))))) (hK _ _ ⟨N8,N4,bV,gT,rfl,(Ext.below hB3 (Ext.below hB4 (Ext.below dx (Ext.below bU (Ext.below bO (Ext.below bF bW)))))),(Nat.le_trans (Below.size (Ext.below hB3 (Ext.below hB4 (Ext.below dx (Ext.below bU bO))))) mG),kQ,(Nat.le_trans (Below.size (Ext.below hB3 hB4)) fE),eH,dM,jS,(Nat.ne_of_gt (Nat.lt_of_lt_of_le (Ib.ext oC (Ext.below bU bO)).1 mG))⟩)
         · refine bP rfl rfl rfl rfl (fun _ k=>Ext.below bS k) ?_
           intro N7 w7 bO jL wL
           have bE:=Ext.below bS bO
           refine Pl.af ?_
           refine Pl.aZ [(false,5,6175),(false,6,6207),(true,7,6271),(true,8,6399),(true,9,6655),(true,10,7167)] 8191 3 Pl.az (by kernel_rfl) (by kernel_rfl) (by kernel_rfl) ?_
           have gz:=Un.below jo bO
           refine Pl.ah rfl rfl rfl rfl rfl jm ?_
           refine Calls.mono (dL _ false _ (limbs (1*2^k)) gz (by rw [Nat.one_mul];exact Nat.le_trans (dQ (M:=40) (by omega)) (by decide)) _ (aI _) ((2:Int)^k) (eD k)) ?_
           rintro e w8 ⟨fK,rfl,iQ,bF⟩
           have bD:=Ext.below bE bF
           refine ⟨_,rfl,bD,?_⟩
           have kP:Sz ((2:Int)^k) 40:=Sz.two (by omega)
           have dI:=Zn.below ha (Ext.below hB1 (Ext.below hB2 (Ext.below hB3 (Ext.below hB4 (Ext.below dx (Ext.below bU (Ext.below bO bF)))))))
           refine Pl.ah rfl rfl rfl rfl rfl gy ?_
           refine Calls.mono (bZ _ _ _ a ((2:Int)^k) dI iQ (Sz.le hl (by decide)) (Sz.le kP (by decide)) (aS k) (shl a (-((k:Nat):Int))) _ (bX a k).symm rfl) ?_
           rintro e w9 ⟨⟨bV,gT,rfl,dM,jS⟩,bW⟩
           have bK:=Ext.below bD bW
           refine ⟨_,rfl,bK,?_⟩
           have gQ:Sz (a/((2:Int)^k)) 100:=Sz.div hl
           have qZ:Sz (a%((2:Int)^k)) 40:=Sz.mod kP (aS k)
           refine Pl.bN bK rfl rfl rfl rfl rfl ?_
           refine Pl.ak bK rfl rfl rfl rfl rfl rfl ?_
           refine Pl.ak bK rfl rfl rfl rfl rfl rfl ?_
           refine Pl.ak bK rfl rfl rfl rfl rfl rfl ?_
           refine Pl.af ?_
           have iR:=Ib.ext wL (Ext.below bF bW)
           have eH:=Ib.ext oC (Ext.below bU (Ext.below bO (Ext.below bF bW)))
           exact Pl.aW [(4,.pointer (some ⟨N2,0,none⟩)),(5,.pointer (some ⟨N7,0,none⟩)),(6,.pointer (some ⟨N4,0,none⟩)),(25,bV),(26,gT),(27,(.int .i64 0))] (Pl.aa rfl (Pl.aa rfl (Pl.aa rfl (Pl.aa rfl (Pl.aa rfl (Pl.aa rfl Pl.aA)))))) (hK _ _ ⟨N7,N4,bV,gT,rfl,(Ext.below hB3 (Ext.below hB4 (Ext.below dx (Ext.below bU (Ext.below bO (Ext.below bF bW)))))),(Nat.le_trans (Below.size (Ext.below hB3 (Ext.below hB4 (Ext.below dx bU)))) jL),iR,(Nat.le_trans (Below.size (Ext.below hB3 hB4)) fE),eH,dM,jS,(Nat.ne_of_gt (Nat.lt_of_lt_of_le (Ib.ext oC bU).1 jL))⟩)
       · refine bP rfl rfl rfl rfl (fun _ k=>Ext.below hS5 k) ?_
         intro N5 w6 bU iy oz
         have bS:=Ext.below hS5 bU
         refine Pl.af ?_
         refine Pl.aZ [(false,4,6159),(false,5,6175),(false,6,6207),(true,7,6271),(true,8,6399),(true,9,6655),(true,10,7167)] 8191 3 Pl.az (by kernel_rfl) (by kernel_rfl) (by kernel_rfl) ?_
         have pY:=U.below wJ (Ext.below dx bU)
         refine Pl.ah rfl rfl rfl rfl rfl mX ?_
         refine Calls.mono (iA _ _ 1 k (U.one pY) (by omega) (Nat.le_trans (Sz.lit (z:=1) (K:=1) (by decide) (by decide)) (by decide)) _ rfl) ?_
         rintro e w7 ⟨sG,rfl,jT,bO⟩
         have bE:=Ext.below bS bO
         refine ⟨_,rfl,bE,?_⟩
         refine Pl.ah rfl rfl rfl rfl rfl jm ?_
         refine Calls.mono (dL _ false _ (limbs (1*2^k)) jT (by rw [Nat.one_mul];exact Nat.le_trans (dQ (M:=40) (by omega)) (by decide)) _ (aI _) ((2:Int)^k) (eD k)) ?_
         rintro e w8 ⟨jN,rfl,iX,bF⟩
         have bD:=Ext.below bE bF
         refine ⟨_,rfl,bD,?_⟩
         have gJ:Sz ((2:Int)^k) 40:=Sz.two (by omega)
         have dI:=Zn.below ha (Ext.below hB1 (Ext.below hB2 (Ext.below hB3 (Ext.below hB4 (Ext.below dx (Ext.below bU (Ext.below bO bF)))))))
         refine Pl.ah rfl rfl rfl rfl rfl gy ?_
         refine Calls.mono (bZ _ _ _ a ((2:Int)^k) dI iX (Sz.le hl (by decide)) (Sz.le gJ (by decide)) (aS k) (shl a (-((k:Nat):Int))) _ (bX a k).symm rfl) ?_
         rintro e w9 ⟨⟨bG,bV,rfl,dH,dM⟩,bW⟩
         have bK:=Ext.below bD bW
         refine ⟨_,rfl,bK,?_⟩
         have gB:Sz (a/((2:Int)^k)) 100:=Sz.div hl
         have gQ:Sz (a%((2:Int)^k)) 40:=Sz.mod gJ (aS k)
         refine Pl.bN bK rfl rfl rfl rfl rfl ?_
         refine Pl.ak bK rfl rfl rfl rfl rfl rfl ?_
         refine Pl.ak bK rfl rfl rfl rfl rfl rfl ?_
         refine Pl.ak bK rfl rfl rfl rfl rfl rfl ?_
         refine Pl.af ?_
         have eG:=Ib.ext oz (Ext.below bO (Ext.below bF bW))
         have eH:=Ib.ext oC (Ext.below bU (Ext.below bO (Ext.below bF bW)))
         exact Pl.aW [(4,.pointer (some ⟨N2,0,none⟩)),(5,.pointer (some ⟨N5,0,none⟩)),(6,.pointer (some ⟨N4,0,none⟩)),(25,bG),(26,bV),(27,(.int .i64 0))] (Pl.aa rfl (Pl.aa rfl (Pl.aa rfl (Pl.aa rfl (Pl.aa rfl (Pl.aa rfl Pl.aA)))))) (hK _ _ ⟨N5,N4,bG,bV,rfl,(Ext.below hB3 (Ext.below hB4 (Ext.below dx (Ext.below bU (Ext.below bO (Ext.below bF bW)))))),(Nat.le_trans (Below.size (Ext.below hB3 (Ext.below hB4 dx))) iy),eG,(Nat.le_trans (Below.size (Ext.below hB3 hB4)) fE),eH,dH,dM,(Nat.ne_of_gt (Nat.lt_of_lt_of_le (oC).1 iy))⟩)
   · refine bP rfl rfl rfl rfl (fun _ k=>Ext.below eY k) ?_
     intro N3 w4 hB4 iJ oD
     have dP:=Ext.below eY hB4
     refine Pl.af ?_
     refine Pl.cB [1,12] 11 (by kernel_rfl) (by kernel_rfl) (by kernel_rfl) (Pl.aj ?_ (Pl.aj ?_ Pl.aJ))
     · refine lK (n:=1) (by decide) rfl rfl rfl rfl rfl (fun _ k=>Ext.below dP k) ?_
       intro A4 w5 dx wM
       have hS5:=Ext.below dP dx
       refine Pl.af ?_
       refine Pl.cB [4,12] 10 (by kernel_rfl) (by kernel_rfl) (by kernel_rfl) (Pl.aj ?_ (Pl.aj ?_ Pl.aJ))
       · refine Pl.ah rfl rfl rfl rfl rfl mX ?_
         refine Calls.mono (iA _ _ 1 k (U.one wM) (by omega) (Nat.le_trans (Sz.lit (z:=1) (K:=1) (by decide) (by decide)) (by decide)) _ rfl) ?_
         rintro e w6 ⟨wH,rfl,jo,bU⟩
         have bS:=Ext.below hS5 bU
         refine ⟨_,rfl,bS,?_⟩
         refine Pl.af ?_
         refine Pl.cB [5,12] 9 (by kernel_rfl) (by kernel_rfl) (by kernel_rfl) (Pl.aj ?_ (Pl.aj ?_ Pl.aJ))
         · refine Pl.ah rfl rfl rfl rfl rfl jm ?_
           refine Calls.mono (dL _ false _ (limbs (1*2^k)) jo (by rw [Nat.one_mul];exact Nat.le_trans (dQ (M:=40) (by omega)) (by decide)) _ (aI _) ((2:Int)^k) (eD k)) ?_
           rintro e w7 ⟨sG,rfl,jT,bO⟩
           have bE:=Ext.below bS bO
           refine ⟨_,rfl,bE,?_⟩
           have p8:Sz ((2:Int)^k) 40:=Sz.two (by omega)
           refine Pl.af ?_
           refine Pl.cB [6,12] 8 (by kernel_rfl) (by kernel_rfl) (by kernel_rfl) (Pl.aj ?_ (Pl.aj ?_ Pl.aJ))
           · have iP:=Zn.below ha (Ext.below hB1 (Ext.below hB2 (Ext.below hB3 (Ext.below hB4 (Ext.below dx (Ext.below bU bO))))))
             refine Pl.ah rfl rfl rfl rfl rfl gy ?_
             refine Calls.mono (bZ _ _ _ a ((2:Int)^k) iP jT (Sz.le hl (by decide)) (Sz.le p8 (by decide)) (aS k) (shl a (-((k:Nat):Int))) _ (bX a k).symm rfl) ?_
             rintro e w8 ⟨⟨jN,fK,rfl,iX,iQ⟩,bF⟩
             have bD:=Ext.below bE bF
             refine ⟨_,rfl,bD,?_⟩
             have gJ:Sz (a/((2:Int)^k)) 100:=Sz.div hl
             have kP:Sz (a%((2:Int)^k)) 40:=Sz.mod p8 (aS k)
             refine Pl.af ?_
             refine Pl.aZ [(true,7,2175),(true,8,2303),(true,9,2559),(true,10,3071),(false,12,4095)] 8191 3 Pl.az (by kernel_rfl) (by kernel_rfl) (by kernel_rfl) ?_
             refine Pl.bN bD rfl rfl rfl rfl rfl ?_
             refine Pl.ak bD rfl rfl rfl rfl rfl rfl ?_
             refine Pl.ak bD rfl rfl rfl rfl rfl rfl ?_
             refine Pl.ak bD rfl rfl rfl rfl rfl rfl ?_
             refine bP rfl rfl rfl rfl (fun _ k=>Ext.below bD k) ?_
             intro rM w9 bW jA sD
             have bK:=Ext.below bD bW
             refine Pl.af ?_
             have eO:=Ib.ext oD (Ext.below dx (Ext.below bU (Ext.below bO (Ext.below bF bW))))
             have jC:=Zn.below iX bW
             have eF:=Zn.below iQ bW
             exact Pl.aW [(4,.pointer (some ⟨N2,0,none⟩)),(5,.pointer (some ⟨N3,0,none⟩)),(6,.pointer (some ⟨rM,0,none⟩)),(25,jN),(26,fK),(27,(.int .i64 0))] (Pl.aa rfl (Pl.aa rfl (Pl.aa rfl (Pl.aa rfl (Pl.aa rfl (Pl.aa rfl Pl.aA)))))) (hK _ _ ⟨N3,rM,jN,fK,rfl,(Ext.below hB3 (Ext.below hB4 (Ext.below dx (Ext.below bU (Ext.below bO (Ext.below bF bW)))))),(Nat.le_trans (Below.size hB3) iJ),eO,(Nat.le_trans (Below.size (Ext.below hB3 (Ext.below hB4 (Ext.below dx (Ext.below bU (Ext.below bO bF)))))) jA),sD,jC,eF,(Nat.ne_of_lt (Nat.lt_of_lt_of_le (Ib.ext oD (Ext.below dx (Ext.below bU (Ext.below bO bF)))).1 jA))⟩)
           · refine bP rfl rfl rfl rfl (fun _ k=>Ext.below bE k) ?_
             intro N7 w8 bF jL wL
             have bD:=Ext.below bE bF
             refine Pl.af ?_
             refine Pl.aZ [(false,6,6207),(true,7,6271),(true,8,6399),(true,9,6655),(true,10,7167)] 8191 3 Pl.az (by kernel_rfl) (by kernel_rfl) (by kernel_rfl) ?_
             have dI:=Zn.below ha (Ext.below hB1 (Ext.below hB2 (Ext.below hB3 (Ext.below hB4 (Ext.below dx (Ext.below bU (Ext.below bO bF)))))))
             have qa:=Zn.below jT bF
             refine Pl.ah rfl rfl rfl rfl rfl gy ?_
             refine Calls.mono (bZ _ _ _ a ((2:Int)^k) dI qa (Sz.le hl (by decide)) (Sz.le p8 (by decide)) (aS k) (shl a (-((k:Nat):Int))) _ (bX a k).symm rfl) ?_
             rintro e w9 ⟨⟨bG,bV,rfl,dH,dM⟩,bW⟩
             have bK:=Ext.below bD bW
             refine ⟨_,rfl,bK,?_⟩
             have gB:Sz (a/((2:Int)^k)) 100:=Sz.div hl
             have gQ:Sz (a%((2:Int)^k)) 40:=Sz.mod p8 (aS k)
             refine Pl.bN bK rfl rfl rfl rfl rfl ?_
             refine Pl.ak bK rfl rfl rfl rfl rfl rfl ?_
             refine Pl.ak bK rfl rfl rfl rfl rfl rfl ?_
             refine Pl.ak bK rfl rfl rfl rfl rfl rfl ?_
             refine Pl.af ?_
             have eO:=Ib.ext oD (Ext.below dx (Ext.below bU (Ext.below bO (Ext.below bF bW))))
             have iR:=Ib.ext wL bW
             exact Pl.aW [(4,.pointer (some ⟨N2,0,none⟩)),(5,.pointer (some ⟨N3,0,none⟩)),(6,.pointer (some ⟨N7,0,none⟩)),(25,bG),(26,bV),(27,(.int .i64 0))] (Pl.aa rfl (Pl.aa rfl (Pl.aa rfl (Pl.aa rfl (Pl.aa rfl (Pl.aa rfl Pl.aA)))))) (hK _ _ ⟨N3,N7,bG,bV,rfl,(Ext.below hB3 (Ext.below hB4 (Ext.below dx (Ext.below bU (Ext.below bO (Ext.below bF bW)))))),(Nat.le_trans (Below.size hB3) iJ),eO,(Nat.le_trans (Below.size (Ext.below hB3 (Ext.below hB4 (Ext.below dx (Ext.below bU bO))))) jL),iR,dH,dM,(Nat.ne_of_lt (Nat.lt_of_lt_of_le (Ib.ext oD (Ext.below dx (Ext.below bU bO))).1 jL))⟩)
         · refine bP rfl rfl rfl rfl (fun _ k=>Ext.below bS k) ?_
           intro N6 w7 bO iL qY
           have bE:=Ext.below bS bO
           refine Pl.af ?_
           refine Pl.aZ [(false,5,6175),(false,6,6207),(true,7,6271),(true,8,6399),(true,9,6655),(true,10,7167)] 8191 3 Pl.az (by kernel_rfl) (by kernel_rfl) (by kernel_rfl) ?_
           have gz:=Un.below jo bO
           refine Pl.ah rfl rfl rfl rfl rfl jm ?_
           refine Calls.mono (dL _ false _ (limbs (1*2^k)) gz (by rw [Nat.one_mul];exact Nat.le_trans (dQ (M:=40) (by omega)) (by decide)) _ (aI _) ((2:Int)^k) (eD k)) ?_
           rintro e w8 ⟨jN,rfl,iX,bF⟩
           have bD:=Ext.below bE bF
           refine ⟨_,rfl,bD,?_⟩
           have gJ:Sz ((2:Int)^k) 40:=Sz.two (by omega)
           have dI:=Zn.below ha (Ext.below hB1 (Ext.below hB2 (Ext.below hB3 (Ext.below hB4 (Ext.below dx (Ext.below bU (Ext.below bO bF)))))))
           refine Pl.ah rfl rfl rfl rfl rfl gy ?_
           refine Calls.mono (bZ _ _ _ a ((2:Int)^k) dI iX (Sz.le hl (by decide)) (Sz.le gJ (by decide)) (aS k) (shl a (-((k:Nat):Int))) _ (bX a k).symm rfl) ?_
           rintro e w9 ⟨⟨bG,bV,rfl,dH,dM⟩,bW⟩
           have bK:=Ext.below bD bW
           refine ⟨_,rfl,bK,?_⟩
           have gB:Sz (a/((2:Int)^k)) 100:=Sz.div hl
           have gQ:Sz (a%((2:Int)^k)) 40:=Sz.mod gJ (aS k)
           refine Pl.bN bK rfl rfl rfl rfl rfl ?_
           refine Pl.ak bK rfl rfl rfl rfl rfl rfl ?_
           refine Pl.ak bK rfl rfl rfl rfl rfl rfl ?_
           refine Pl.ak bK rfl rfl rfl rfl rfl rfl ?_
           refine Pl.af ?_
           have eO:=Ib.ext oD (Ext.below dx (Ext.below bU (Ext.below bO (Ext.below bF bW))))
           have fM:=Ib.ext qY (Ext.below bF bW)
           exact Pl.aW [(4,.pointer (some ⟨N2,0,none⟩)),(5,.pointer (some ⟨N3,0,none⟩)),(6,.pointer (some ⟨N6,0,none⟩)),(25,bG),(26,bV),(27,(.int .i64 0))] (Pl.aa rfl (Pl.aa rfl (Pl.aa rfl (Pl.aa rfl (Pl.aa rfl (Pl.aa rfl Pl.aA)))))) (hK _ _ ⟨N3,N6,bG,bV,rfl,(Ext.below hB3 (Ext.below hB4 (Ext.below dx (Ext.below bU (Ext.below bO (Ext.below bF bW)))))),(Nat.le_trans (Below.size hB3) iJ),eO,(Nat.le_trans (Below.size (Ext.below hB3 (Ext.below hB4 (Ext.below dx bU)))) iL),fM,dH,dM,(Nat.ne_of_lt (Nat.lt_of_lt_of_le (Ib.ext oD (Ext.below dx bU)).1 iL))⟩)
       · refine bP rfl rfl rfl rfl (fun _ k=>Ext.below hS5 k) ?_
         intro N5 w6 bU iy oz
         have bS:=Ext.below hS5 bU
         refine Pl.af ?_
         refine Pl.aZ [(false,4,6159),(false,5,6175),(false,6,6207),(true,7,6271),(true,8,6399),(true,9,6655),(true,10,7167)] 8191 3 Pl.az (by kernel_rfl) (by kernel_rfl) (by kernel_rfl) ?_
         have qb:=U.below wM bU
         refine Pl.ah rfl rfl rfl rfl rfl mX ?_
         refine Calls.mono (iA _ _ 1 k (U.one qb) (by omega) (Nat.le_trans (Sz.lit (z:=1) (K:=1) (by decide) (by decide)) (by decide)) _ rfl) ?_
         rintro e w7 ⟨sG,rfl,jT,bO⟩
         have bE:=Ext.below bS bO
         refine ⟨_,rfl,bE,?_⟩
         refine Pl.ah rfl rfl rfl rfl rfl jm ?_
         refine Calls.mono (dL _ false _ (limbs (1*2^k)) jT (by rw [Nat.one_mul];exact Nat.le_trans (dQ (M:=40) (by omega)) (by decide)) _ (aI _) ((2:Int)^k) (eD k)) ?_
         rintro e w8 ⟨jN,rfl,iX,bF⟩
         have bD:=Ext.below bE bF
         refine ⟨_,rfl,bD,?_⟩
         have gJ:Sz ((2:Int)^k) 40:=Sz.two (by omega)
         have dI:=Zn.below ha (Ext.below hB1 (Ext.below hB2 (Ext.below hB3 (Ext.below hB4 (Ext.below dx (Ext.below bU (Ext.below bO bF)))))))
         refine Pl.ah rfl rfl rfl rfl rfl gy ?_
         refine Calls.mono (bZ _ _ _ a ((2:Int)^k) dI iX (Sz.le hl (by decide)) (Sz.le gJ (by decide)) (aS k) (shl a (-((k:Nat):Int))) _ (bX a k).symm rfl) ?_
         rintro e w9 ⟨⟨bG,bV,rfl,dH,dM⟩,bW⟩
         have bK:=Ext.below bD bW
         refine ⟨_,rfl,bK,?_⟩
         have gB:Sz (a/((2:Int)^k)) 100:=Sz.div hl
         have gQ:Sz (a%((2:Int)^k)) 40:=Sz.mod gJ (aS k)
         refine Pl.bN bK rfl rfl rfl rfl rfl ?_
         refine Pl.ak bK rfl rfl rfl rfl rfl rfl ?_
         refine Pl.ak bK rfl rfl rfl rfl rfl rfl ?_
         refine Pl.ak bK rfl rfl rfl rfl rfl rfl ?_
         refine Pl.af ?_
         have eO:=Ib.ext oD (Ext.below dx (Ext.below bU (Ext.below bO (Ext.below bF bW))))
         have eG:=Ib.ext oz (Ext.below bO (Ext.below bF bW))
         exact Pl.aW [(4,.pointer (some ⟨N2,0,none⟩)),(5,.pointer (some ⟨N3,0,none⟩)),(6,.pointer (some ⟨N5,0,none⟩)),(25,bG),(26,bV),(27,(.int .i64 0))] (Pl.aa rfl (Pl.aa rfl (Pl.aa rfl (Pl.aa rfl (Pl.aa rfl (Pl.aa rfl Pl.aA)))))) (hK _ _ ⟨N3,N5,bG,bV,rfl,(Ext.below hB3 (Ext.below hB4 (Ext.below dx (Ext.below bU (Ext.below bO (Ext.below bF bW)))))),(Nat.le_trans (Below.size hB3) iJ),eO,(Nat.le_trans (Below.size (Ext.below hB3 (Ext.below hB4 dx))) iy),eG,dH,dM,(Nat.ne_of_lt (Nat.lt_of_lt_of_le (Ib.ext oD dx).1 iy))⟩)
     · refine bP rfl rfl rfl rfl (fun _ k=>Ext.below dP k) ?_
       intro N4 w5 dx fE oC
       have hS5:=Ext.below dP dx
       refine Pl.af ?_
       refine Pl.aZ [(false,1,6157),(false,4,6159),(false,5,6175),(false,6,6207),(true,7,6271),(true,8,6399),(true,9,6655),(true,10,7167)] 8191 3 Pl.az (by kernel_rfl) (by kernel_rfl) (by kernel_rfl) ?_
       refine lK (n:=1) (by decide) rfl rfl rfl rfl rfl (fun _ k=>Ext.below hS5 k) ?_
       intro A5 w6 bU BM
       have bS:=Ext.below hS5 bU
       refine Pl.ah rfl rfl rfl rfl rfl mX ?_
       refine Calls.mono (iA _ _ 1 k (U.one BM) (by omega) (Nat.le_trans (Sz.lit (z:=1) (K:=1) (by decide) (by decide)) (by decide)) _ rfl) ?_
       rintro e w7 ⟨sG,rfl,jT,bO⟩
       have bE:=Ext.below bS bO
       refine ⟨_,rfl,bE,?_⟩
       refine Pl.ah rfl rfl rfl rfl rfl jm ?_
       refine Calls.mono (dL _ false _ (limbs (1*2^k)) jT (by rw [Nat.one_mul];exact Nat.le_trans (dQ (M:=40) (by omega)) (by decide)) _ (aI _) ((2:Int)^k) (eD k)) ?_
       rintro e w8 ⟨ow,rfl,jO,bF⟩
       have bD:=Ext.below bE bF
       refine ⟨_,rfl,bD,?_⟩
       have gI:Sz ((2:Int)^k) 40:=Sz.two (by omega)
       have dI:=Zn.below ha (Ext.below hB1 (Ext.below hB2 (Ext.below hB3 (Ext.below hB4 (Ext.below dx (Ext.below bU (Ext.below bO bF)))))))
       refine Pl.ah rfl rfl rfl rfl rfl gy ?_
       refine Calls.mono (bZ _ _ _ a ((2:Int)^k) dI jO (Sz.le hl (by decide)) (Sz.le gI (by decide)) (aS k) (shl a (-((k:Nat):Int))) _ (bX a k).symm rfl) ?_
       rintro e w9 ⟨⟨fK,bG,rfl,iQ,dH⟩,bW⟩
       have bK:=Ext.below bD bW
       refine ⟨_,rfl,bK,?_⟩
       have kP:Sz (a/((2:Int)^k)) 100:=Sz.div hl
       have gB:Sz (a%((2:Int)^k)) 40:=Sz.mod gI (aS k)
       refine Pl.bN bK rfl rfl rfl rfl rfl ?_
       refine Pl.ak bK rfl rfl rfl rfl rfl rfl ?_
       refine Pl.ak bK rfl rfl rfl rfl rfl rfl ?_
       refine Pl.ak bK rfl rfl rfl rfl rfl rfl ?_
       refine Pl.af ?_
       have eO:=Ib.ext oD (Ext.below dx (Ext.below bU (Ext.below bO (Ext.below bF bW))))
       have eH:=Ib.ext oC (Ext.below bU (Ext.below bO (Ext.below bF bW)))
       exact Pl.aW [(4,.pointer (some ⟨N2,0,none⟩)),(5,.pointer (some ⟨N3,0,none⟩)),(6,.pointer (some ⟨N4,0,none⟩)),(25,fK),(26,bG),(27,(.int .i64 0))] (Pl.aa rfl (Pl.aa rfl (Pl.aa rfl (Pl.aa rfl (Pl.aa rfl (Pl.aa rfl Pl.aA)))))) (hK _ _ ⟨N3,N4,fK,bG,rfl,(Ext.below hB3 (Ext.below hB4 (Ext.below dx (Ext.below bU (Ext.below bO (Ext.below bF bW)))))),(Nat.le_trans (Below.size hB3) iJ),eO,(Nat.le_trans (Below.size (Ext.below hB3 hB4)) fE),eH,iQ,dH,(Nat.ne_of_lt (Nat.lt_of_lt_of_le (oD).1 fE))⟩)
   · refine bP rfl rfl rfl rfl (fun _ k=>Ext.below eY k) ?_
     intro N3 w4 hB4 iJ oD
     have dP:=Ext.below eY hB4
     refine Pl.af ?_
     refine Pl.cB [1,11] 11 (by kernel_rfl) (by kernel_rfl) (by kernel_rfl) (Pl.aj ?_ (Pl.aj ?_ Pl.aJ))
     · refine lK (n:=1) (by decide) rfl rfl rfl rfl rfl (fun _ k=>Ext.below dP k) ?_
       intro A4 w5 dx wM
       have hS5:=Ext.below dP dx
       refine Pl.af ?_
       refine Pl.cB [4,11] 10 (by kernel_rfl) (by kernel_rfl) (by kernel_rfl) (Pl.aj ?_ (Pl.aj ?_ Pl.aJ))
       · refine Pl.ah rfl rfl rfl rfl rfl mX ?_
         refine Calls.mono (iA _ _ 1 k (U.one wM) (by omega) (Nat.le_trans (Sz.lit (z:=1) (K:=1) (by decide) (by decide)) (by decide)) _ rfl) ?_
         rintro e w6 ⟨wH,rfl,jo,bU⟩
         have bS:=Ext.below hS5 bU
         refine ⟨_,rfl,bS,?_⟩
         refine Pl.af ?_
         refine Pl.cB [5,11] 9 (by kernel_rfl) (by kernel_rfl) (by kernel_rfl) (Pl.aj ?_ (Pl.aj ?_ Pl.aJ))
         · refine Pl.ah rfl rfl rfl rfl rfl jm ?_
           refine Calls.mono (dL _ false _ (limbs (1*2^k)) jo (by rw [Nat.one_mul];exact Nat.le_trans (dQ (M:=40) (by omega)) (by decide)) _ (aI _) ((2:Int)^k) (eD k)) ?_
           rintro e w7 ⟨sG,rfl,jT,bO⟩
           have bE:=Ext.below bS bO
           refine ⟨_,rfl,bE,?_⟩
           have p8:Sz ((2:Int)^k) 40:=Sz.two (by omega)
           refine Pl.af ?_
           refine Pl.cB [6,11] 8 (by kernel_rfl) (by kernel_rfl) (by kernel_rfl) (Pl.aj ?_ (Pl.aj ?_ Pl.aJ))
           · have iP:=Zn.below ha (Ext.below hB1 (Ext.below hB2 (Ext.below hB3 (Ext.below hB4 (Ext.below dx (Ext.below bU bO))))))
             refine Pl.ah rfl rfl rfl rfl rfl gy ?_
             refine Calls.mono (bZ _ _ _ a ((2:Int)^k) iP jT (Sz.le hl (by decide)) (Sz.le p8 (by decide)) (aS k) (shl a (-((k:Nat):Int))) _ (bX a k).symm rfl) ?_
             rintro e w8 ⟨⟨jN,fK,rfl,iX,iQ⟩,bF⟩
             have bD:=Ext.below bE bF
             refine ⟨_,rfl,bD,?_⟩
             have gJ:Sz (a/((2:Int)^k)) 100:=Sz.div hl
             have kP:Sz (a%((2:Int)^k)) 40:=Sz.mod p8 (aS k)
             refine Pl.af ?_
             refine Pl.aZ [(true,7,4223),(true,8,4351),(true,9,4607),(true,10,5119),(false,11,6143)] 8191 3 Pl.az (by kernel_rfl) (by kernel_rfl) (by kernel_rfl) ?_
             refine Pl.bN bD rfl rfl rfl rfl rfl ?_
             refine Pl.ak bD rfl rfl rfl rfl rfl rfl ?_
             refine Pl.ak bD rfl rfl rfl rfl rfl rfl ?_
             refine Pl.ak bD rfl rfl rfl rfl rfl rfl ?_
             refine bP rfl rfl rfl rfl (fun _ k=>Ext.below bD k) ?_
             intro rM w9 bW jA sD
             have bK:=Ext.below bD bW
             refine Pl.af ?_
             have eO:=Ib.ext oD (Ext.below dx (Ext.below bU (Ext.below bO (Ext.below bF bW))))
             have jC:=Zn.below iX bW
             have eF:=Zn.below iQ bW
             exact Pl.aW [(4,.pointer (some ⟨N2,0,none⟩)),(5,.pointer (some ⟨rM,0,none⟩)),(6,.pointer (some ⟨N3,0,none⟩)),(25,jN),(26,fK),(27,(.int .i64 0))] (Pl.aa rfl (Pl.aa rfl (Pl.aa rfl (Pl.aa rfl (Pl.aa rfl (Pl.aa rfl Pl.aA)))))) (hK _ _ ⟨rM,N3,jN,fK,rfl,(Ext.below hB3 (Ext.below hB4 (Ext.below dx (Ext.below bU (Ext.below bO (Ext.below bF bW)))))),(Nat.le_trans (Below.size (Ext.below hB3 (Ext.below hB4 (Ext.below dx (Ext.below bU (Ext.below bO bF)))))) jA),sD,(Nat.le_trans (Below.size hB3) iJ),eO,jC,eF,(Nat.ne_of_gt (Nat.lt_of_lt_of_le (Ib.ext oD (Ext.below dx (Ext.below bU (Ext.below bO bF)))).1 jA))⟩)
           · refine bP rfl rfl rfl rfl (fun _ k=>Ext.below bE k) ?_
             intro N7 w8 bF jL wL
             have bD:=Ext.below bE bF
             refine Pl.af ?_
             refine Pl.aZ [(false,6,6207),(true,7,6271),(true,8,6399),(true,9,6655),(true,10,7167)] 8191 3 Pl.az (by kernel_rfl) (by kernel_rfl) (by kernel_rfl) ?_
             have dI:=Zn.below ha (Ext.below hB1 (Ext.below hB2 (Ext.below hB3 (Ext.below hB4 (Ext.below dx (Ext.below bU (Ext.below bO bF)))))))
             have qa:=Zn.below jT bF
             refine Pl.ah rfl rfl rfl rfl rfl gy ?_
             refine Calls.mono (bZ _ _ _ a ((2:Int)^k) dI qa (Sz.le hl (by decide)) (Sz.le p8 (by decide)) (aS k) (shl a (-((k:Nat):Int))) _ (bX a k).symm rfl) ?_
             rintro e w9 ⟨⟨bG,bV,rfl,dH,dM⟩,bW⟩
             have bK:=Ext.below bD bW
             refine ⟨_,rfl,bK,?_⟩
             have gB:Sz (a/((2:Int)^k)) 100:=Sz.div hl
             have gQ:Sz (a%((2:Int)^k)) 40:=Sz.mod p8 (aS k)
             refine Pl.bN bK rfl rfl rfl rfl rfl ?_
             refine Pl.ak bK rfl rfl rfl rfl rfl rfl ?_
             refine Pl.ak bK rfl rfl rfl rfl rfl rfl ?_
             refine Pl.ak bK rfl rfl rfl rfl rfl rfl ?_
             refine Pl.af ?_
             have iR:=Ib.ext wL bW
             have eO:=Ib.ext oD (Ext.below dx (Ext.below bU (Ext.below bO (Ext.below bF bW))))
             exact Pl.aW [(4,.pointer (some ⟨N2,0,none⟩)),(5,.pointer (some ⟨N7,0,none⟩)),(6,.pointer (some ⟨N3,0,none⟩)),(25,bG),(26,bV),(27,(.int .i64 0))] (Pl.aa rfl (Pl.aa rfl (Pl.aa rfl (Pl.aa rfl (Pl.aa rfl (Pl.aa rfl Pl.aA)))))) (hK _ _ ⟨N7,N3,bG,bV,rfl,(Ext.below hB3 (Ext.below hB4 (Ext.below dx (Ext.below bU (Ext.below bO (Ext.below bF bW)))))),(Nat.le_trans (Below.size (Ext.below hB3 (Ext.below hB4 (Ext.below dx (Ext.below bU bO))))) jL),iR,(Nat.le_trans (Below.size hB3) iJ),eO,dH,dM,(Nat.ne_of_gt (Nat.lt_of_lt_of_le (Ib.ext oD (Ext.below dx (Ext.below bU bO))).1 jL))⟩)
         · refine bP rfl rfl rfl rfl (fun _ k=>Ext.below bS k) ?_
           intro N6 w7 bO iL qY
           have bE:=Ext.below bS bO
           refine Pl.af ?_
           refine Pl.aZ [(false,5,6175),(false,6,6207),(true,7,6271),(true,8,6399),(true,9,6655),(true,10,7167)] 8191 3 Pl.az (by kernel_rfl) (by kernel_rfl) (by kernel_rfl) ?_
           have gz:=Un.below jo bO
           refine Pl.ah rfl rfl rfl rfl rfl jm ?_
           refine Calls.mono (dL _ false _ (limbs (1*2^k)) gz (by rw [Nat.one_mul];exact Nat.le_trans (dQ (M:=40) (by omega)) (by decide)) _ (aI _) ((2:Int)^k) (eD k)) ?_
           rintro e w8 ⟨jN,rfl,iX,bF⟩
           have bD:=Ext.below bE bF
           refine ⟨_,rfl,bD,?_⟩
           have gJ:Sz ((2:Int)^k) 40:=Sz.two (by omega)
           have dI:=Zn.below ha (Ext.below hB1 (Ext.below hB2 (Ext.below hB3 (Ext.below hB4 (Ext.below dx (Ext.below bU (Ext.below bO bF)))))))
           refine Pl.ah rfl rfl rfl rfl rfl gy ?_
           refine Calls.mono (bZ _ _ _ a ((2:Int)^k) dI iX (Sz.le hl (by decide)) (Sz.le gJ (by decide)) (aS k) (shl a (-((k:Nat):Int))) _ (bX a k).symm rfl) ?_
           rintro e w9 ⟨⟨bG,bV,rfl,dH,dM⟩,bW⟩
           have bK:=Ext.below bD bW
           refine ⟨_,rfl,bK,?_⟩
           have gB:Sz (a/((2:Int)^k)) 100:=Sz.div hl
           have gQ:Sz (a%((2:Int)^k)) 40:=Sz.mod gJ (aS k)
           refine Pl.bN bK rfl rfl rfl rfl rfl ?_
           refine Pl.ak bK rfl rfl rfl rfl rfl rfl ?_
           refine Pl.ak bK rfl rfl rfl rfl rfl rfl ?_
           refine Pl.ak bK rfl rfl rfl rfl rfl rfl ?_
           refine Pl.af ?_
           have fM:=Ib.ext qY (Ext.below bF bW)
           have eO:=Ib.ext oD (Ext.below dx (Ext.below bU (Ext.below bO (Ext.below bF bW))))
           exact Pl.aW [(4,.pointer (some ⟨N2,0,none⟩)),(5,.pointer (some ⟨N6,0,none⟩)),(6,.pointer (some ⟨N3,0,none⟩)),(25,bG),(26,bV),(27,(.int .i64 0))] (Pl.aa rfl (Pl.aa rfl (Pl.aa rfl (Pl.aa rfl (Pl.aa rfl (Pl.aa rfl Pl.aA)))))) (hK _ _ ⟨N6,N3,bG,bV,rfl,(Ext.below hB3 (Ext.below hB4 (Ext.below dx (Ext.below bU (Ext.below bO (Ext.below bF bW)))))),(Nat.le_trans (Below.size (Ext.below hB3 (Ext.below hB4 (Ext.below dx bU)))) iL),fM,(Nat.le_trans (Below.size hB3) iJ),eO,dH,dM,(Nat.ne_of_gt (Nat.lt_of_lt_of_le (Ib.ext oD (Ext.below dx bU)).1 iL))⟩)
       · refine bP rfl rfl rfl rfl (fun _ k=>Ext.below hS5 k) ?_
         intro N5 w6 bU iy oz
         have bS:=Ext.below hS5 bU
         refine Pl.af ?_
         refine Pl.aZ [(false,4,6159),(false,5,6175),(false,6,6207),(true,7,6271),(true,8,6399),(true,9,6655),(true,10,7167)] 8191 3 Pl.az (by kernel_rfl) (by kernel_rfl) (by kernel_rfl) ?_
         have qb:=U.below wM bU
         refine Pl.ah rfl rfl rfl rfl rfl mX ?_
         refine Calls.mono (iA _ _ 1 k (U.one qb) (by omega) (Nat.le_trans (Sz.lit (z:=1) (K:=1) (by decide) (by decide)) (by decide)) _ rfl) ?_
         rintro e w7 ⟨sG,rfl,jT,bO⟩
         have bE:=Ext.below bS bO
         refine ⟨_,rfl,bE,?_⟩
         refine Pl.ah rfl rfl rfl rfl rfl jm ?_
         refine Calls.mono (dL _ false _ (limbs (1*2^k)) jT (by rw [Nat.one_mul];exact Nat.le_trans (dQ (M:=40) (by omega)) (by decide)) _ (aI _) ((2:Int)^k) (eD k)) ?_
         rintro e w8 ⟨jN,rfl,iX,bF⟩
         have bD:=Ext.below bE bF
         refine ⟨_,rfl,bD,?_⟩
         have gJ:Sz ((2:Int)^k) 40:=Sz.two (by omega)
         have dI:=Zn.below ha (Ext.below hB1 (Ext.below hB2 (Ext.below hB3 (Ext.below hB4 (Ext.below dx (Ext.below bU (Ext.below bO bF)))))))
         refine Pl.ah rfl rfl rfl rfl rfl gy ?_
         refine Calls.mono (bZ _ _ _ a ((2:Int)^k) dI iX (Sz.le hl (by decide)) (Sz.le gJ (by decide)) (aS k) (shl a (-((k:Nat):Int))) _ (bX a k).symm rfl) ?_
         rintro e w9 ⟨⟨bG,bV,rfl,dH,dM⟩,bW⟩
         have bK:=Ext.below bD bW
         refine ⟨_,rfl,bK,?_⟩
         have gB:Sz (a/((2:Int)^k)) 100:=Sz.div hl
         have gQ:Sz (a%((2:Int)^k)) 40:=Sz.mod gJ (aS k)
         refine Pl.bN bK rfl rfl rfl rfl rfl ?_
         refine Pl.ak bK rfl rfl rfl rfl rfl rfl ?_
         refine Pl.ak bK rfl rfl rfl rfl rfl rfl ?_
         refine Pl.ak bK rfl rfl rfl rfl rfl rfl ?_
         refine Pl.af ?_
         have eG:=Ib.ext oz (Ext.below bO (Ext.below bF bW))
         have eO:=Ib.ext oD (Ext.below dx (Ext.below bU (Ext.below bO (Ext.below bF bW))))
         exact Pl.aW [(4,.pointer (some ⟨N2,0,none⟩)),(5,.pointer (some ⟨N5,0,none⟩)),(6,.pointer (some ⟨N3,0,none⟩)),(25,bG),(26,bV),(27,(.int .i64 0))] (Pl.aa rfl (Pl.aa rfl (Pl.aa rfl (Pl.aa rfl (Pl.aa rfl (Pl.aa rfl Pl.aA)))))) (hK _ _ ⟨N5,N3,bG,bV,rfl,(Ext.below hB3 (Ext.below hB4 (Ext.below dx (Ext.below bU (Ext.below bO (Ext.below bF bW)))))),(Nat.le_trans (Below.size (Ext.below hB3 (Ext.below hB4 dx))) iy),eG,(Nat.le_trans (Below.size hB3) iJ),eO,dH,dM,(Nat.ne_of_gt (Nat.lt_of_lt_of_le (Ib.ext oD dx).1 iy))⟩)
     · refine bP rfl rfl rfl rfl (fun _ k=>Ext.below dP k) ?_
       intro N4 w5 dx fE oC
       have hS5:=Ext.below dP dx
       refine Pl.af ?_
       refine Pl.aZ [(false,1,6157),(false,4,6159),(false,5,6175),(false,6,6207),(true,7,6271),(true,8,6399),(true,9,6655),(true,10,7167)] 8191 3 Pl.az (by kernel_rfl) (by kernel_rfl) (by kernel_rfl) ?_
       refine lK (n:=1) (by decide) rfl rfl rfl rfl rfl (fun _ k=>Ext.below hS5 k) ?_
       intro A5 w6 bU BM
       have bS:=Ext.below hS5 bU
       refine Pl.ah rfl rfl rfl rfl rfl mX ?_
       refine Calls.mono (iA _ _ 1 k (U.one BM) (by omega) (Nat.le_trans (Sz.lit (z:=1) (K:=1) (by decide) (by decide)) (by decide)) _ rfl) ?_
       rintro e w7 ⟨sG,rfl,jT,bO⟩
       have bE:=Ext.below bS bO
       refine ⟨_,rfl,bE,?_⟩
       refine Pl.ah rfl rfl rfl rfl rfl jm ?_
       refine Calls.mono (dL _ false _ (limbs (1*2^k)) jT (by rw [Nat.one_mul];exact Nat.le_trans (dQ (M:=40) (by omega)) (by decide)) _ (aI _) ((2:Int)^k) (eD k)) ?_
       rintro e w8 ⟨ow,rfl,jO,bF⟩
       have bD:=Ext.below bE bF
       refine ⟨_,rfl,bD,?_⟩
       have gI:Sz ((2:Int)^k) 40:=Sz.two (by omega)
       have dI:=Zn.below ha (Ext.below hB1 (Ext.below hB2 (Ext.below hB3 (Ext.below hB4 (Ext.below dx (Ext.below bU (Ext.below bO bF)))))))
       refine Pl.ah rfl rfl rfl rfl rfl gy ?_
       refine Calls.mono (bZ _ _ _ a ((2:Int)^k) dI jO (Sz.le hl (by decide)) (Sz.le gI (by decide)) (aS k) (shl a (-((k:Nat):Int))) _ (bX a k).symm rfl) ?_
       rintro e w9 ⟨⟨fK,bG,rfl,iQ,dH⟩,bW⟩
       have bK:=Ext.below bD bW
       refine ⟨_,rfl,bK,?_⟩
       have kP:Sz (a/((2:Int)^k)) 100:=Sz.div hl
       have gB:Sz (a%((2:Int)^k)) 40:=Sz.mod gI (aS k)
       refine Pl.bN bK rfl rfl rfl rfl rfl ?_
       refine Pl.ak bK rfl rfl rfl rfl rfl rfl ?_
       refine Pl.ak bK rfl rfl rfl rfl rfl rfl ?_
       refine Pl.ak bK rfl rfl rfl rfl rfl rfl ?_
       refine Pl.af ?_
       have eH:=Ib.ext oC (Ext.below bU (Ext.below bO (Ext.below bF bW)))
       have eO:=Ib.ext oD (Ext.below dx (Ext.below bU (Ext.below bO (Ext.below bF bW))))
       exact Pl.aW [(4,.pointer (some ⟨N2,0,none⟩)),(5,.pointer (some ⟨N4,0,none⟩)),(6,.pointer (some ⟨N3,0,none⟩)),(25,fK),(26,bG),(27,(.int .i64 0))] (Pl.aa rfl (Pl.aa rfl (Pl.aa rfl (Pl.aa rfl (Pl.aa rfl (Pl.aa rfl Pl.aA)))))) (hK _ _ ⟨N4,N3,fK,bG,rfl,(Ext.below hB3 (Ext.below hB4 (Ext.below dx (Ext.below bU (Ext.below bO (Ext.below bF bW)))))),(Nat.le_trans (Below.size (Ext.below hB3 hB4)) fE),eH,(Nat.le_trans (Below.size hB3) iJ),eO,iQ,dH,(Nat.ne_of_gt (Nat.lt_of_lt_of_le (oD).1 fE))⟩)
 rintro _ ZM ⟨MV,MW,DU,DV,rfl,zR,lM,wN,lN,wO,oV,uL,jq⟩
 have zS:=zR
 have lY:Sz ((2:Int)^k) 40:=Sz.two (by omega)
 have gI:Sz (a/((2:Int)^k)) 100:=Sz.div hl
 have gJ:Sz (a%((2:Int)^k)) 40:=Sz.mod lY (aS k)
 refine Pl.aZ [(false,13,8191),(false,14,16383),(true,15,32767)] 65535 0 Pl.az (by kernel_rfl) (by kernel_rfl) (by kernel_rfl) ?_
 obtain ⟨DW,DX,DY,DZ,rfl⟩:=Zn.sh oV
 refine pO rfl rfl rfl rfl rfl rfl wN (fun _ T=>T _ zS (Nat.le_trans (Below.size (Ext.refl w2)) lM)) ?_
 intro ZN wP wQ BN FO
 have FP:=wP _ zR (Nat.le_trans (Below.size (Ext.refl w2)) lM)
 have zT:=wP _ zS (Nat.le_trans (Below.size (Ext.refl w2)) lM)
 have oF:=BN _ _ _ (Ne.symm jq) wO
 have nI:=wQ _ _ oV
 have jU:=wQ _ _ uL
 obtain ⟨D5,D6,D7,D8,rfl⟩:=Zn.sh jU
 refine pO rfl rfl rfl rfl rfl rfl oF (fun _ T=>T _ zT (Nat.le_trans (Below.size (Ext.refl w2)) lN)) ?_
 intro ZO wR wS BO FQ
 have zU:=wR _ FP (Nat.le_trans (Below.size (Ext.refl w2)) lN)
 have FR:=wR _ zT (Nat.le_trans (Below.size (Ext.refl w2)) lN)
 have nJ:=wS _ _ nI
 have nK:=BO _ _ _ jq FO
 have nL:=wS _ _ jU
 refine Pl.qU FR rfl rfl rfl rfl rfl ?_
 refine Pl.af ?_
 refine Pl.tK (by kernel_rfl) ?_
 refine Pl.ay ?_
 refine Pl.aB (by kernel_rfl) ?_
 refine Pl.zh trivial rfl rfl rfl rfl rfl (Ib.load nK) ?_
 have wT:=Ib.ext i_2 zU
 refine pO rfl rfl rfl rfl rfl rfl wT (fun _ _=>trivial) ?_
 intro ZP BP wU wV FT
 have FU:=BP _ (Ext.below hB2 zU) (Nat.le_trans (Below.size (Ext.refl w1)) iB)
 have nM:=wU _ _ nJ
 have BQ:=wV _ _ _ (Nat.ne_of_gt (Nat.lt_of_lt_of_le (Ib.ext i_2 (Ext.refl w2)).1 lM)) nK
 have wW:=wU _ _ nL
 have BR:=wV _ _ _ (Nat.ne_of_gt (Nat.lt_of_lt_of_le (Ib.ext i_2 (Ext.refl w2)).1 lN)) FQ
 refine Pl.af ?_
 refine nE rfl rfl FT ?_
 exact ⟨_,rfl,nM,(Ext.below hB1 FU)⟩
theorem tL (w:World) (va:Value) (a s:Int) (ha:Zn w va a) (hl:Sz a 100) (h1 : -900≤s) (h2:s≤900) :
  Calls Tryz.prog 51 #[va,.int .i64 s] w fun e w'=>∃ u,e = .returned u∧Zn w' u (shl a s)∧Ext w w':=by
 by_cases h0:0≤s
 · exact wG w va a s ha hl h0 h1 h2
 · exact wI w va a s ha hl h0 h1 h2
end Go.Proofs.YtdpmbgomcjnohaaGreatDoor
namespace Go.Proofs.YtdpmbgomcjnohaaGreatDoor
open Go.RowKit 
set_option linter.all false
set_option maxRecDepth 100000
set_option maxHeartbeats 8000000
theorem qc {w:World} {v:Value} {xs:List Nat} {b:Bool} (h:U w v xs) (k:Nat):Sz (sg b (gN xs k)) k:=by
 show (limbs (sg b (gN xs k)).natAbs).length≤k
 rw [yt];exact kW xs k h.lim
theorem qi (w:World) (A:Option Addr) (c:Nat) (z ee:Int) (u:Un w (.slice A (limbs z.natAbs).length c) z.natAbs) (lz:Sz z 65536) :
  Calls Tryz.prog 14 #[.agg #[.bool (decide (z<0)),.slice A (limbs z.natAbs).length c,.int .i64 ee]] w fun e w'=>e = .returned (.bool (decide ((z=0∧ee=0∨z%2=1) ∧ -100000≤ee∧ee≤100000)))∧Pl.Ex w w':=by
 refine Pl.bL (n:=32) (vs:=[.agg #[.bool (decide (z<0)),.slice A (limbs (Int.natAbs z)).length c,.int .i64 ee]]) Tryz.func14 rfl (by kernel_rfl) (by simp) ?_
 repeat refine Pl.ay ?_
 refine Pl.aB (by kernel_rfl) ?_
 refine Pl.dN (cs:=[.bool (decide (z<0)),.slice A (limbs (Int.natAbs z)).length c,.int .i64 ee]) rfl rfl rfl rfl rfl rfl (fun Y hY=>trivial) ?_
 intro N1 w1 hE1 eP aC
 have ig:=Pl.Cb.lt aC
 have mH:=Pl.Ex.size hE1
 refine Pl.aG trivial rfl ?_
 refine Pl.af ?_
 repeat refine Pl.ay ?_
 refine Pl.aB (by kernel_rfl) ?_
 refine Pl.bC (.pointer (some ⟨N1,0,none⟩)) trivial rfl rfl rfl rfl (fun X=>by kernel_rfl) ?_
 refine Pl.dJ (part:=[.bool (decide (z<0)),.slice A (limbs (Int.natAbs z)).length c]) aC rfl Tryz.underlying24 rfl (by kernel_rfl) trivial rfl rfl rfl rfl rfl ?_
 refine Pl.ah rfl rfl rfl rfl rfl (fun u X=>Pl.enters Tryz.func61 (by kernel_rfl) rfl u X) ?_
 refine Calls.mono (zP _ _ _ _ (Zn.ri (Zn.of (Un.below u hE1))) true (C8 (Sz.le lz (by omega)))) ?_
 rintro e w2 ⟨rfl,hE2⟩
 have mY:=Pl.Ex.size hE2
 refine ⟨_,rfl,trivial,?_⟩
 refine Pl.mK (v:=.bool false) trivial rfl rfl rfl rfl rfl (fun X=>rfl) ?_
 refine Pl.af ?_
 repeat refine Pl.ay ?_
 refine Pl.gm rfl ?_
 repeat refine Pl.ay ?_
 refine Pl.iK ?_
 repeat refine Pl.ay ?_
 refine Pl.aB (by kernel_rfl) ?_
 refine Pl.bC (.pointer (some ⟨N1,0,none⟩)) trivial rfl rfl rfl rfl (fun X=>by kernel_rfl) ?_
 refine Pl.bC (.pointer (some ⟨N1,1,none⟩)) trivial rfl rfl rfl rfl (fun X=>by kernel_rfl) ?_
 refine Pl.eT (v:=.slice A (limbs (Int.natAbs z)).length c) Tryz.underlying22 rfl (Pl.Cb.at (j:=1) (Pl.Cb.ex aC hE2) rfl) trivial rfl rfl rfl rfl rfl ?_
 refine Pl.yG Tryz.underlying22 trivial rfl rfl rfl rfl rfl ?_
 by_cases c2:((limbs (Int.natAbs z)).length)=0
 · refine Pl.dO (v:=.bool true) (fun X=>Pl.gM (Pl.e_t (by omega)) X) trivial rfl rfl rfl rfl rfl rfl ?_
   refine Pl.af ?_
   repeat refine Pl.ay ?_
   refine Pl.iO rfl ?_
   repeat refine Pl.ay ?_
   refine Pl.aB (by kernel_rfl) ?_
   refine Pl.bC (.pointer (some ⟨N1,2,none⟩)) trivial rfl rfl rfl rfl (fun X=>by kernel_rfl) ?_
   refine Pl.eT (v:=.int .i64 ee) Tryz.underlying3 rfl (Pl.Cb.at (j:=2) (Pl.Cb.ex aC hE2) rfl) trivial rfl rfl rfl rfl rfl ?_
   by_cases c3:ee=0
   · refine Pl.dO (v:=.bool true) (fun X=>nN c3 X) trivial rfl rfl rfl rfl rfl rfl ?_
     refine Pl.aG trivial rfl ?_
     refine Pl.af ?_
     repeat refine Pl.ay ?_
     exact Pl.dU rfl rfl  (⟨by rw [decide_eq_true (show (z=0∧ee=0∨z%2=1) ∧ -100000≤ee∧ee≤100000 by have hl1:=@oO z.natAbs;omega)],(Pl.Ex.trans hE1 hE2)⟩)
   · refine Pl.dO (v:=.bool false) (fun X=>vE c3 X) trivial rfl rfl rfl rfl rfl rfl ?_
     refine Pl.aG trivial rfl ?_
     refine Pl.af ?_
     repeat refine Pl.ay ?_
     exact Pl.dU rfl rfl  (⟨by rw [decide_eq_false (show ¬ ((z=0∧ee=0∨z%2=1) ∧ -100000≤ee∧ee≤100000) by have hl1:=@oO z.natAbs;omega)],(Pl.Ex.trans hE1 hE2)⟩)
 · refine Pl.dO (v:=.bool false) (fun X=>Pl.gM (Pl.e_f (by omega)) X) trivial rfl rfl rfl rfl rfl rfl ?_
   refine Pl.af ?_
   repeat refine Pl.ay ?_
   refine Pl.gm rfl ?_
   repeat refine Pl.ay ?_
   refine Pl.iK ?_
   repeat refine Pl.ay ?_
   refine Pl.aB (by kernel_rfl) ?_
   refine Pl.bC (.pointer (some ⟨N1,0,none⟩)) trivial rfl rfl rfl rfl (fun X=>by kernel_rfl) ?_
   refine Pl.bC (.pointer (some ⟨N1,1,none⟩)) trivial rfl rfl rfl rfl (fun X=>by kernel_rfl) ?_
   refine Pl.eT (v:=.slice A (limbs (Int.natAbs z)).length c) Tryz.underlying22 rfl (Pl.Cb.at (j:=1) (Pl.Cb.ex aC hE2) rfl) trivial rfl rfl rfl rfl rfl ?_
   have hl0:=@oO z.natAbs
   have hq0:z.natAbs≠0:=by omega
   obtain ⟨ad,hA1,hcell⟩:=J2 u (i:=0) (by omega)
   subst hA1
   refine Pl.J3 (s:=1) (j:=0) Tryz.underlying22 (by kernel_rfl) rfl (by omega) trivial rfl rfl rfl rfl rfl rfl ?_
   refine Pl.eT (v:=.int .u32 (((z.natAbs%4294967296):Nat):Int)) Tryz.underlying67 rfl (AY (Un.below u (Pl.Ex.trans hE1 hE2)) hq0) trivial rfl rfl rfl rfl rfl ?_
   refine Pl.dO (v:=.int .u32 ((((z.natAbs%4294967296)%2):Nat):Int)) (fun X=>vQ (a:=(z.natAbs%4294967296)) (b:=2) (by omega) (by omega) X) trivial rfl rfl rfl rfl rfl rfl ?_
   by_cases c3:((z.natAbs%4294967296)%2)=1
   · refine Pl.dO (v:=.bool true) (fun X=>Pl.gM (Pl.e_t (by omega)) X) trivial rfl rfl rfl rfl rfl rfl ?_
     refine Pl.aG trivial rfl ?_
     refine Pl.bC (.pointer (some ⟨N1,2,none⟩)) trivial rfl rfl rfl rfl (fun X=>by kernel_rfl) ?_
     refine Pl.eT (v:=.int .i64 ee) Tryz.underlying3 rfl (Pl.Cb.at (j:=2) (Pl.Cb.ex aC hE2) rfl) trivial rfl rfl rfl rfl rfl ?_
     by_cases c4:ee≥(-100000)
     · refine Pl.dO (v:=.bool true) (fun X=>sU c4 X) trivial rfl rfl rfl rfl rfl rfl ?_
       refine Pl.aG trivial rfl ?_
       refine Pl.bC (.pointer (some ⟨N1,2,none⟩)) trivial rfl rfl rfl rfl (fun X=>by kernel_rfl) ?_
       refine Pl.eT (v:=.int .i64 ee) Tryz.underlying3 rfl (Pl.Cb.at (j:=2) (Pl.Cb.ex aC hE2) rfl) trivial rfl rfl rfl rfl rfl ?_
       by_cases c5:ee≤100000
       · refine Pl.dO (v:=.bool true) (fun X=>zf c5 X) trivial rfl rfl rfl rfl rfl rfl ?_
         refine Pl.aG trivial rfl ?_
         refine Pl.af ?_
         repeat refine Pl.ay ?_
         exact Pl.dU rfl rfl  (⟨by rw [decide_eq_true (show (z=0∧ee=0∨z%2=1) ∧ -100000≤ee∧ee≤100000 by have hl1:=@oO z.natAbs;omega)],(Pl.Ex.trans hE1 hE2)⟩)
       · refine Pl.dO (v:=.bool false) (fun X=>zg c5 X) trivial rfl rfl rfl rfl rfl rfl ?_
         refine Pl.aG trivial rfl ?_
         refine Pl.af ?_
         repeat refine Pl.ay ?_
         exact Pl.dU rfl rfl  (⟨by rw [decide_eq_false (show ¬ ((z=0∧ee=0∨z%2=1) ∧ -100000≤ee∧ee≤100000) by have hl1:=@oO z.natAbs;omega)],(Pl.Ex.trans hE1 hE2)⟩)
     · refine Pl.dO (v:=.bool false) (fun X=>vF c4 X) trivial rfl rfl rfl rfl rfl rfl ?_
       refine Pl.aG trivial rfl ?_
       refine Pl.af ?_
       repeat refine Pl.ay ?_
       exact Pl.dU rfl rfl  (⟨by rw [decide_eq_false (show ¬ ((z=0∧ee=0∨z%2=1) ∧ -100000≤ee∧ee≤100000) by have hl1:=@oO z.natAbs;omega)],(Pl.Ex.trans hE1 hE2)⟩)
   · refine Pl.dO (v:=.bool false) (fun X=>Pl.gM (Pl.e_f (by omega)) X) trivial rfl rfl rfl rfl rfl rfl ?_
     refine Pl.aG trivial rfl ?_
     refine Pl.af ?_
     repeat refine Pl.ay ?_
     exact Pl.dU rfl rfl  (⟨by rw [decide_eq_false (show ¬ ((z=0∧ee=0∨z%2=1) ∧ -100000≤ee∧ee≤100000) by have hl1:=@oO z.natAbs;omega)],(Pl.Ex.trans hE1 hE2)⟩)
end Go.Proofs.YtdpmbgomcjnohaaGreatDoor
namespace Go.Proofs.YtdpmbgomcjnohaaGreatDoor
open Go.RowKit 
set_option linter.all false
set_option maxRecDepth 100000
set_option maxHeartbeats 8000000
theorem VI (m e:Int) (k:Nat):Dy.dv (shl m (k:Int)) (e-(k:Int))=Dy.dv m e:=by
 rw [vL,Dy.AZ,show e-(k:Int)+(k:Int)=e by omega]
theorem J4 (w:World) (hg:Gt w) (Ur:Bool) (Am:Option Addr) (cm:Nat) (OE:List Nat) (hum:U w (.slice Am OE.length cm) OE) (ex:Int) (bex : -32768≤ex∧ex≤32767) (kK:Nat) (acM:kK<256) :
  Calls Tryz.prog 7 #[.agg #[.bool Ur,.slice Am OE.length cm],.int .i16 ex,.int .u8 ((kK:Nat):Int)] w fun e w'=>e = .returned (.bool true)∧Pl.Ex w w':=by
 obtain ⟨m,ZQ⟩:∃ z,sg Ur (gN OE 8)=z:=⟨_,rfl⟩
 have lm:Sz m 8:=by rw [← ZQ];exact qc hum 8
 refine Pl.bL (n:=59) (vs:=[.agg #[.bool Ur,.slice Am OE.length cm],.int .i16 ex,.int .u8 ((kK:Nat):Int)]) Tryz.func7 rfl (by kernel_rfl) (by simp) ?_
 repeat refine Pl.ay ?_
 refine Pl.aB (by kernel_rfl) ?_
 refine Pl.dN (cs:=[.bool Ur,.slice Am OE.length cm]) rfl rfl rfl rfl rfl rfl (fun Y hY=>trivial) ?_
 intro N1 w1 hE1 eP aC
 have ig:=Pl.Cb.lt aC
 have mH:=Pl.Ex.size hE1
 refine Pl.aG trivial rfl ?_
 refine Pl.af ?_
 repeat refine Pl.ay ?_
 refine Pl.aB (by kernel_rfl) ?_
 refine Pl.ah rfl rfl rfl rfl rfl (fun u X=>Pl.enters Tryz.func12 (by kernel_rfl) rfl u X) ?_
 refine Calls.mono (sH _ (hg.ext hE1)) ?_
 rintro e w2 ⟨rfl,hE2⟩
 have mY:=Pl.Ex.size hE2
 refine ⟨_,rfl,trivial,?_⟩
 refine Pl.aG trivial rfl ?_
 refine Pl.af ?_
 repeat refine Pl.ay ?_
 refine Pl.aB (by kernel_rfl) ?_
 refine Pl.dJ (part:=[.bool Ur,.slice Am OE.length cm]) (Pl.Cb.ex aC hE2) rfl Tryz.underlying24 rfl (by kernel_rfl) trivial rfl rfl rfl rfl rfl ?_
 refine Pl.ah rfl rfl rfl rfl rfl (fun u X=>Pl.enters Tryz.func16 (by kernel_rfl) rfl u X) ?_
 refine Calls.mono (oU _ _ _ _ (Ri.below (⟨_,_,rfl,hum⟩:Ri w _ Ur OE) (Pl.Ex.trans hE1 hE2)) 8 _ rfl (by omega) _ rfl) ?_
 rintro e w3 ⟨v2,rfl,hv2,aO⟩
 rw [ZQ] at hv2
 obtain ⟨A3,c4,rfl,u5⟩:=hv2
 have mZ:=Pl.Ex.size aO
 refine ⟨_,rfl,trivial,?_⟩
 refine Pl.bg (new:=[.bool (decide (m<0)),.slice A3 (limbs (Int.natAbs m)).length c4]) (Pl.Cb.ex aC (Pl.Ex.trans hE2 aO)) (by kernel_rfl) rfl (by simp [Value.oneCell']) rfl rfl rfl rfl rfl rfl (fun Y hY=>trivial) ?_
 intro w4 yH lF
 have aR:=Pl.Ex.xs (Pl.Ex.trans hE1 (Pl.Ex.trans hE2 aO)) yH (by omega)
 have l9:=Pl.Xs.size yH
 refine Pl.af ?_
 repeat refine Pl.ay ?_
 refine Pl.aB (by kernel_rfl) ?_
 refine Pl.aG trivial rfl ?_
 refine Pl.zi (c:=((kK:Nat):Int)) Tryz.underlying3 (by kernel_rfl) (Pl.MX (a:=kK) rfl (Pl.Jg (by omega) (by omega))) trivial rfl rfl rfl rfl rfl ?_
 refine Pl.dO (v:=.int .i64 (((kK%201):Nat):Int)) (fun X=>jR (a:=kK) (b:=201) (by omega) (by omega) X) trivial rfl rfl rfl rfl rfl rfl ?_
 refine Pl.aG trivial rfl ?_
 refine Pl.af ?_
 repeat refine Pl.ay ?_
 refine Pl.aB (by kernel_rfl) ?_
 refine Pl.dJ (part:=[.bool (decide (m<0)),.slice A3 (limbs (Int.natAbs m)).length c4]) lF rfl Tryz.underlying24 rfl (by kernel_rfl) trivial rfl rfl rfl rfl rfl ?_
 refine Pl.aG trivial rfl ?_
 refine Pl.zi (c:=ex) Tryz.underlying3 (by kernel_rfl) (Pl.Jg (by omega) (by omega)) trivial rfl rfl rfl rfl rfl ?_
 have k13:=Un.xs u5 yH (Pl.Cb.ex aC (Pl.Ex.trans hE2 aO)) (by simp)
 refine Pl.ah rfl rfl rfl rfl rfl (fun u X=>Pl.enters Tryz.func18 (by kernel_rfl) rfl u X) ?_
 refine Calls.mono (lU _ (hg.ext aR) _ m ex (Zn.of k13) 8 lm (by decide) (by omega) (-32768) 33023 (by omega) (by omega) (by decide) (by decide)) ?_
 rintro e w5 ⟨v6,rfl,hv6,aP⟩
 obtain ⟨m7,e8,A9,c10,rfl,tY,J5⟩:=hv6
 have aqI:=J5.lo
 have aqJ:=J5.hi
 have jY:=Pl.Ex.size aP
 refine ⟨_,rfl,trivial,?_⟩
 refine Pl.aU (z:=.agg #[.bool false,.slice none 0 0,.int .i64 0]) (by kernel_rfl) rfl rfl rfl rfl (fun Y hY=>trivial) ?_
 intro G9 w6 aM He jV
 have Mh:=Pl.Cb.lt jV
 have jr:=Pl.Ex.size aM
 replace jV:Pl.Cb w6 G9 26 [.bool false,.slice none 0 0,.int .i64 0]:=jV
 refine Pl.bg (new:=[.bool (decide (m7<0)),.slice A9 (limbs (Int.natAbs m7)).length c10,.int .i64 e8]) jV (by kernel_rfl) rfl (by simp [Value.oneCell']) rfl rfl rfl rfl rfl rfl (fun Y hY=>trivial) ?_
 intro w7 gP sI
 have aH:=Pl.Ex.xs aM gP (by omega)
 have iU:=Pl.Xs.size gP
 refine Pl.af ?_
 repeat refine Pl.ay ?_
 refine Pl.aB (by kernel_rfl) ?_
 refine Pl.dJ (part:=[.bool (decide (m<0)),.slice A3 (limbs (Int.natAbs m)).length c4]) (Pl.Cb.ex lF (Pl.Ex.trans aP aH)) rfl Tryz.underlying24 rfl (by kernel_rfl) trivial rfl rfl rfl rfl rfl ?_
 refine Pl.aG trivial rfl ?_
 have k19:=Un.xs (Un.below k13 (Pl.Ex.trans aP aM)) gP jV (by simp)
 refine Pl.ah rfl rfl rfl rfl rfl (fun u X=>Pl.enters Tryz.func51 (by kernel_rfl) rfl u X) ?_
 refine Calls.mono (tL _ _ m (((kK%201):Nat):Int) (Zn.of k19) (Sz.le lm (by decide)) (by omega) (by omega)) ?_
 rintro e w8 ⟨v15,rfl,Hf,bu⟩
 obtain ⟨A16,c17,rfl,OG⟩:=Hf
 have mh:=Pl.Ex.size bu
 refine ⟨_,rfl,trivial,?_⟩
 refine Pl.aG trivial rfl ?_
 refine Pl.zi (c:=ex) Tryz.underlying3 (by kernel_rfl) (Pl.Jg (by omega) (by omega)) trivial rfl rfl rfl rfl rfl ?_
 refine Pl.aG trivial rfl ?_
 refine Pl.dO (v:=.int .i64 (ex-(((kK%201):Nat):Int))) (fun X=>rO (by omega) X) trivial rfl rfl rfl rfl rfl rfl ?_
 refine Pl.ah rfl rfl rfl rfl rfl (fun u X=>Pl.enters Tryz.func18 (by kernel_rfl) rfl u X) ?_
 refine Calls.mono (lU _ (hg.ext (Pl.Ex.trans aR (Pl.Ex.trans aP (Pl.Ex.trans aH bu)))) _ (shl m (((kK%201):Nat):Int)) (ex-(((kK%201):Nat):Int)) (Zn.of OG) 15 (qP (j:=7) lm (by omega) (by omega):Sz (shl m (((kK%201):Nat):Int)) 15) (by decide) (by omega) (-32968) 33247 (by omega) (by omega) (by decide) (by decide)) ?_
 rintro e w9 ⟨v20,rfl,ve,dh⟩
 obtain ⟨m21,e22,GZ,c24,rfl,u25,Qs⟩:=ve
 have ajV:=Qs.lo
 have ajW:=Qs.hi
 have pG:=Pl.Ex.size dh
 refine ⟨_,rfl,trivial,?_⟩
 refine Pl.aU (z:=.agg #[.bool false,.slice none 0 0,.int .i64 0]) (by kernel_rfl) rfl rfl rfl rfl (fun Y hY=>trivial) ?_
 intro N27 qD bf acN xW
 have afO:=Pl.Cb.lt xW
 have mD:=Pl.Ex.size bf
 replace xW:Pl.Cb qD N27 26 [.bool false,.slice none 0 0,.int .i64 0]:=xW
 refine Pl.bg (new:=[.bool (decide (m21<0)),.slice GZ (limbs (Int.natAbs m21)).length c24,.int .i64 e22]) xW (by kernel_rfl) rfl (by simp [Value.oneCell']) rfl rfl rfl rfl rfl rfl (fun Y hY=>trivial) ?_
 intro uV jI MZ
 have bI:=Pl.Ex.xs bf jI (by omega)
 have qx:=Pl.Xs.size jI
 refine Pl.af ?_
 repeat refine Pl.ay ?_
 refine Pl.fJ (S:=fun X=>Pl.Ex uV X) [(true,0,0),(true,1,1),(false,2,3),(true,3,7),(true,4,15),(false,5,31),(true,6,63),(true,7,127),(true,8,255),(false,9,511),(true,10,1023),(true,11,2047),(true,12,4095),(true,14,8191),(false,13,24575),(false,15,32767),(true,16,65535),(true,17,131071),(true,18,262143),(true,19,524287),(true,20,1048575),(true,21,2097151),(true,22,4194303),(true,24,8388607),(false,23,25165823),(false,25,33554431),(true,26,67108863),(true,27,134217727),(true,28,268435455),(true,29,536870911),(true,30,1073741823)] fo Pl.az (by kernel_rfl) (Pl.Ex.trans (Pl.Ex.refl _) (Pl.Ex.drew _)) ?_
 have bY:=Pl.Ex.drew uV
 generalize uV.drew=yu at *
 have qQ:=Pl.Ex.size bY
 intro jl
 refine Pl.bT (part:=[.bool (decide (m7<0)),.slice A9 (limbs (Int.natAbs m7)).length c10,.int .i64 e8]) (fun X hX=>Pl.Cb.ex (Pl.Cb.ex sI (Pl.Ex.trans bu (Pl.Ex.trans dh bI))) hX) rfl Tryz.underlying26 rfl (by kernel_rfl) jl rfl rfl rfl rfl rfl ?_
 refine Pl.bT (part:=[.bool (decide (m21<0)),.slice GZ (limbs (Int.natAbs m21)).length c24,.int .i64 e22]) (fun X hX=>Pl.Cb.ex MZ hX) rfl Tryz.underlying26 rfl (by kernel_rfl) jl rfl rfl rfl rfl rfl ?_
 refine Pl.ah rfl rfl rfl rfl rfl (fun u X=>Pl.enters Tryz.func17 (by kernel_rfl) rfl u X) ?_
 refine Calls.mono (dR _ _ _ (Dy.dv m ex) (Dy.dv (shl m (((kK%201):Nat):Int)) (ex-(((kK%201):Nat):Int))) _ _ _ _ _ _ (Dn.mk (Un.below tY (Pl.Ex.trans aH (Pl.Ex.trans bu (Pl.Ex.trans dh (Pl.Ex.trans bI bY))))) J5.can J5.val J5.sz J5.lo J5.hi) (Dn.mk (Un.below u25 (Pl.Ex.trans bI bY)) Qs.can Qs.val Qs.sz Qs.lo Qs.hi) (by decide) (by decide)) ?_
 rintro e yM ⟨rfl,bM⟩
 rw [decide_eq_true (show (Dy.dv m ex)=(Dy.dv (shl m (((kK%201):Nat):Int)) (ex-(((kK%201):Nat):Int))) from (VI _ _ _).symm)]
 have rE:=Pl.Ex.size bM
 have lV:=Pl.Ex.trans jl bM
 refine ⟨_,rfl,lV,?_⟩
 refine Pl.aG lV rfl ?_
 refine Pl.bT (part:=[.bool (decide (m7<0)),.slice A9 (limbs (Int.natAbs m7)).length c10,.int .i64 e8]) (fun X hX=>Pl.Cb.ex (Pl.Cb.ex sI (Pl.Ex.trans bu (Pl.Ex.trans dh bI))) hX) rfl Tryz.underlying26 rfl (by kernel_rfl) lV rfl rfl rfl rfl rfl ?_
 refine Pl.ah rfl rfl rfl rfl rfl (fun u X=>Pl.enters Tryz.func13 (by kernel_rfl) rfl u X) ?_
 refine Calls.mono (rq _ _ _ m7 e8 (Un.below tY (Pl.Ex.trans aH (Pl.Ex.trans bu (Pl.Ex.trans dh (Pl.Ex.trans bI (Pl.Ex.trans bY bM)))))) (Sz.le J5.sz (by decide))) ?_
 rintro e FV ⟨rfl,ed⟩
 rw [decide_eq_true ⟨J5.can,by omega,by omega⟩]
 have zK:=Pl.Ex.size ed
 have nU:=Pl.Ex.trans lV ed
 refine ⟨_,rfl,nU,?_⟩
 refine Pl.aG nU rfl ?_
 refine Pl.bT (part:=[.bool (decide (m7<0)),.slice A9 (limbs (Int.natAbs m7)).length c10,.int .i64 e8]) (fun X hX=>Pl.Cb.ex (Pl.Cb.ex sI (Pl.Ex.trans bu (Pl.Ex.trans dh bI))) hX) rfl Tryz.underlying26 rfl (by kernel_rfl) nU rfl rfl rfl rfl rfl ?_
 refine Pl.ah rfl rfl rfl rfl rfl (fun u X=>Pl.enters Tryz.func14 (by kernel_rfl) rfl u X) ?_
 refine Calls.mono (qi _ _ _ m7 e8 (Un.below tY (Pl.Ex.trans aH (Pl.Ex.trans bu (Pl.Ex.trans dh (Pl.Ex.trans bI (Pl.Ex.trans bY (Pl.Ex.trans bM ed))))))) (Sz.le J5.sz (by decide))) ?_
 rintro e IA ⟨rfl,dK⟩
 rw [decide_eq_true ⟨J5.can,by omega,by omega⟩]
 have Cz:=Pl.Ex.size dK
 have uM:=Pl.Ex.trans nU dK
 refine ⟨_,rfl,uM,?_⟩
 refine Pl.aG uM rfl ?_
 refine Pl.bT (part:=[.bool (decide (m7<0)),.slice A9 (limbs (Int.natAbs m7)).length c10,.int .i64 e8]) (fun X hX=>Pl.Cb.ex (Pl.Cb.ex sI (Pl.Ex.trans bu (Pl.Ex.trans dh bI))) hX) rfl Tryz.underlying26 rfl (by kernel_rfl) uM rfl rfl rfl rfl rfl ?_
 refine Pl.bT (part:=[.bool (decide (m<0)),.slice A3 (limbs (Int.natAbs m)).length c4]) (fun X hX=>Pl.Cb.ex (Pl.Cb.ex lF (Pl.Ex.trans aP (Pl.Ex.trans aH (Pl.Ex.trans bu (Pl.Ex.trans dh bI))))) hX) rfl Tryz.underlying24 rfl (by kernel_rfl) uM rfl rfl rfl rfl rfl ?_
 refine Pl.ah rfl rfl rfl rfl rfl (fun u X=>Pl.enters Tryz.func22 (by kernel_rfl) rfl u X) ?_
 refine Calls.mono (qj _ _ (Dy.dv m ex) _ _ _ (Dn.mk (Un.below tY (Pl.Ex.trans aH (Pl.Ex.trans bu (Pl.Ex.trans dh (Pl.Ex.trans bI (Pl.Ex.trans bY (Pl.Ex.trans bM (Pl.Ex.trans ed dK)))))))) J5.can J5.val J5.sz J5.lo J5.hi)) ?_
 rintro e w16 ⟨k28,rfl,acO,dW⟩
 have aqK:=(show -1≤k28∧k28≤1 from ⟨acO.1,acO.2.1⟩)
 have LA:=Pl.Ex.size dW
 have xC:=Pl.Ex.trans uM dW
 refine ⟨_,rfl,xC,?_⟩
 have k30:=Un.xs (Un.below k19 (Pl.Ex.trans bu (Pl.Ex.trans dh bf))) jI xW (by simp)
 refine Pl.ah rfl rfl rfl rfl rfl (fun u X=>Pl.enters Tryz.func52 (by kernel_rfl) rfl u X) ?_
 refine Calls.mono (EC _ _ m (Zn.of (Un.below k30 (Pl.Ex.trans bY (Pl.Ex.trans bM (Pl.Ex.trans ed (Pl.Ex.trans dK dW)))))) ((Sz.le lm (by decide))) _ rfl) ?_
 rintro e Oa ⟨rfl,eu⟩
 obtain ⟨Tz,acQ⟩:∃ z9,Int.sign m=z9:=⟨_,rfl⟩
 rw [acQ]
 have aqL:=yx acQ
 have LC:=Pl.Ex.size eu
 have vk:=Pl.Ex.trans xC eu
 refine ⟨_,rfl,vk,?_⟩
 refine Pl.dO (v:=.bool true) (fun X=>nN (M0.uniq acO (Qt rfl acQ)) X) vk rfl rfl rfl rfl rfl rfl ?_
 refine Pl.aG vk rfl ?_
 refine Pl.bC (.pointer (some ⟨G9,0,none⟩)) vk rfl rfl rfl rfl (fun X=>by kernel_rfl) ?_
 refine Pl.bT (part:=[.bool (decide (m7<0)),.slice A9 (limbs (Int.natAbs m7)).length c10]) (fun X hX=>Pl.Cb.ex (Pl.Cb.ex sI (Pl.Ex.trans bu (Pl.Ex.trans dh bI))) hX) rfl Tryz.underlying24 rfl (by kernel_rfl) vk rfl rfl rfl rfl rfl ?_
 refine Pl.bC (.pointer (some ⟨G9,2,none⟩)) vk rfl rfl rfl rfl (fun X=>by kernel_rfl) ?_
 refine Pl.iE (v:=.int .i64 e8) Tryz.underlying3 rfl (fun X hX=>Pl.Cb.at (j:=2) (Pl.Cb.ex (Pl.Cb.ex sI (Pl.Ex.trans bu (Pl.Ex.trans dh bI))) hX) rfl) vk rfl rfl rfl rfl rfl ?_
 refine Pl.bT (part:=[.bool (decide (m7<0)),.slice A9 (limbs (Int.natAbs m7)).length c10,.int .i64 e8]) (fun X hX=>Pl.Cb.ex (Pl.Cb.ex sI (Pl.Ex.trans bu (Pl.Ex.trans dh bI))) hX) rfl Tryz.underlying26 rfl (by kernel_rfl) vk rfl rfl rfl rfl rfl ?_
 refine Pl.ah rfl rfl rfl rfl rfl (fun u X=>Pl.enters Tryz.func18 (by kernel_rfl) rfl u X) ?_
 refine Calls.mono (lU _ (hg.ext (Pl.Ex.trans aR (Pl.Ex.trans aP (Pl.Ex.trans aH (Pl.Ex.trans bu (Pl.Ex.trans dh (Pl.Ex.trans bI (Pl.Ex.trans bY (Pl.Ex.trans bM (Pl.Ex.trans ed (Pl.Ex.trans dK (Pl.Ex.trans dW eu)))))))))))) _ m7 e8 (Zn.of (Un.below tY (Pl.Ex.trans aH (Pl.Ex.trans bu (Pl.Ex.trans dh (Pl.Ex.trans bI (Pl.Ex.trans bY (Pl.Ex.trans bM (Pl.Ex.trans ed (Pl.Ex.trans dK (Pl.Ex.trans dW eu))))))))))) 8 J5.sz (by decide) (by omega) (-32768) 33279 (by omega) (by omega) (by decide) (by decide)) ?_
 rintro e OH ⟨v31,rfl,hv31,dZ⟩
 obtain ⟨m32,e33,A34,c35,rfl,u36,d37⟩:=hv31
 have aqO:=d37.lo
 have aqP:=d37.hi
 have J6:=Pl.Ex.size dZ
 have uk:=Pl.Ex.trans vk dZ
 refine ⟨_,rfl,uk,?_⟩
 refine Pl.ah rfl rfl rfl rfl rfl (fun u X=>Pl.enters Tryz.func17 (by kernel_rfl) rfl u X) ?_
 refine Calls.mono (dR _ _ _ (Dy.dv m7 e8) (Dy.dv m ex) _ _ _ _ _ _ (Dn.mk u36 d37.can d37.val d37.sz d37.lo d37.hi) (Dn.mk (Un.below tY (Pl.Ex.trans aH (Pl.Ex.trans bu (Pl.Ex.trans dh (Pl.Ex.trans bI (Pl.Ex.trans bY (Pl.Ex.trans bM (Pl.Ex.trans ed (Pl.Ex.trans dK (Pl.Ex.trans dW (Pl.Ex.trans eu dZ))))))))))) J5.can J5.val J5.sz J5.lo J5.hi) (by decide) (by decide)) ?_
 rintro e Vd ⟨rfl,fu⟩
 rw [decide_eq_true (show (Dy.dv m7 e8)=(Dy.dv m ex) from J5.val)]
 have J7:=Pl.Ex.size fu
 have sV:=Pl.Ex.trans uk fu
 refine ⟨_,rfl,sV,?_⟩
 refine Pl.aG sV rfl ?_
 refine Pl.af ?_
 repeat refine Pl.ay ?_
 exact Pl.dU rfl rfl  (⟨rfl,(Pl.Ex.trans aR (Pl.Ex.trans aP (Pl.Ex.trans aH (Pl.Ex.trans bu (Pl.Ex.trans dh (Pl.Ex.trans bI (Pl.Ex.trans bY (Pl.Ex.trans bM (Pl.Ex.trans ed (Pl.Ex.trans dK (Pl.Ex.trans dW (Pl.Ex.trans eu (Pl.Ex.trans dZ fu)))))))))))))⟩)
end Go.Proofs.YtdpmbgomcjnohaaGreatDoor
namespace Go.Proofs.YtdpmbgomcjnohaaGreatDoor
open Go.ChangeShapes Go.WideShapes Go.ChangeAt Go.RowKit
set_option linter.all false
set_option maxRecDepth 100000
set_option maxHeartbeats 8000000
theorem vo:Tryz.prog.cellsOf 24 = 2:=by kernel_rfl
theorem uo:Tryz.prog.cellsOf 22 = 1:=by kernel_rfl
theorem vw {H:Type} {enc:TypeId × Value→H} {W:World} {m:Nat} {c0 c1:Value} {y:DataW H × List MemPlace} (h:DataW.trod enc Tryz.prog W 0 (fun _=>true) true m 24 [c0,c1]=some y) :
  ∃ (s:Bool) (A:Option Addr) (c:Nat) (xs:List Nat),c0 = .bool s∧c1 = .slice A xs.length c∧U W (.slice A xs.length c) xs:=by
 obtain ⟨ys,n,_,rfl,hl,hlen,hf⟩:=DataW.trod_struct Tryz.underlying24 h
 match ys,hlen,hf with
 | [y0,y1],_,hf =>
  have h0:=hf 0 _ rfl
  have h1:=hf 1 _ rfl
  have cb:Tryz.prog.cellsOf 4 = 1:=by kernel_rfl
  simp [uo,cb] at h0 h1
  obtain ⟨s,e0,_⟩:=DataW.trod_bool Tryz.underlying4 h0
  obtain ⟨xs,u⟩:=kJ h1
  obtain ⟨A,c,rfl,hu⟩:=id u
  simp at e0
  exact ⟨s,A,c,xs,e0,rfl,u⟩
theorem M3 {H:Type} {enc:TypeId × Value→H} {W:World} {base:Nat} {v:Value} {d:DataW H} {ps:List MemPlace} (hval:Value.okWide Tryz.prog W .any base 24 v) (h:DataW.Trod enc Tryz.prog W 0 (fun _=>true) true 24 v d ps) :
  ∃ (s:Bool) (A:Option Addr) (c:Nat) (xs:List Nat),v = .agg #[.bool s,.slice A xs.length c]∧U W (.slice A xs.length c) xs:=by
 obtain ⟨cs,rfl,hsz⟩:=okWide_struct Tryz.underlying24 hval
 rw [vo] at hsz
 obtain ⟨l⟩:=cs
 match l,hsz with
 | [c0,c1],_ =>
  obtain ⟨fuel,hf⟩:=h
  obtain ⟨s,A,c,xs,rfl,rfl,u⟩:=vw hf
  exact ⟨s,A,c,xs,rfl,u⟩
end Go.Proofs.YtdpmbgomcjnohaaGreatDoor
namespace Go.Proofs.YtdpmbgomcjnohaaGreatDoor
open Go.ChangeShapes Go.WideShapes Go.ChangeAt Go.RowKit
set_option linter.all false
set_option maxRecDepth 100000
set_option maxHeartbeats 8000000
abbrev jM:List (String × DataW Unit):=[("math/bits.deBruijn32tab",Rows.laid_math_bits_deBruijn32tab),("ziggurat/ntt.fields",Rows.laid_ziggurat_ntt_fields)]
theorem qE (os:Os) (args:Array Value):laidMetH Tryz.prog jM ((World.laidAll Tryz.prog os jM).forCall (fun _ _=>0) ⟨#[],args,[]⟩).memory:=by
 rw [MakeChecks.laidMetH_plain _ _ _ (by kernel_rfl)]
 exact laidMet_laidAll _ (by kernel_rfl) (by kernel_rfl)
theorem Qu:Tryz.prog.globalNamed "math/bits.deBruijn32tab" = some 0:=by kernel_rfl
theorem Qv:(Tryz.prog.globals[0]?).map (·.type)=some 121 := by kernel_rfl
theorem vS:Tryz.prog.cellsOf 5 = 1:=by kernel_rfl
theorem sJ:Tryz.prog.cellsOf 121 = 32:=by kernel_rfl
theorem nk {W:World} (h:laidMetH Tryz.prog jM W):Gt W:=by
 rw [MakeChecks.laidMetH_plain _ _ _ (by kernel_rfl)] at h
 obtain ⟨ps,⟨g0,t0,cs0,f0,p0,q0,hg0,ht0,hv0,hd0,_,_⟩,_⟩:=h
 obtain rfl:=Option.some.inj (Qu.symm.trans hg0)
 obtain rfl:=Option.some.inj (Qv.symm.trans ht0)
 obtain ⟨xs,m1,rfl,hx1,hlen,Y4,hel⟩:=DataW.trod_array Tryz.underlying121 hd0
 rw [sJ] at hlen
 simp only [vS] at hel
 obtain ⟨l⟩:=cs0
 rw [Prod.mk.injEq] at hx1
 have hx2:DataW.agg (AQ.map fun n=>DataW.lit (Lit.int .u8 ((n:Nat):Int)))=DataW.agg (xs.map (·.1)):=hx1.1
 rw [DataW.agg.injEq] at hx2
 have hc:=fun k=>World.var?_cell hg0 hv0 k
 have hall:∀ i,i<32→W.cell? ⟨0,i,none⟩=some (.int .u8 ((lb AQ i:Nat):Int)):=by
  intro i hi
  have e:=hel i hi
  have hxi:i<xs.length:=by omega
  have J8:i<l.length:=by have:l.length=32:=hlen;omega
  have hdi:i<AQ.length:=hi
  rw [List.getElem?_eq_getElem hxi,Nat.mul_one,List.drop_eq_getElem_cons J8] at e
  simp only [List.take_succ_cons,List.take_zero] at e
  obtain ⟨a,e0,hy,_⟩:=DataW.trod_int Tryz.underlying5 e
  have h1:=congrArg (fun q=>q[i]?) hx2
  simp only [List.getElem?_map,List.getElem?_eq_getElem hxi,List.getElem?_eq_getElem hdi,Option.map_some,Option.some.injEq,hy,DataW.lit.injEq,Lit.int.injEq,true_and] at h1
  have h2:lb AQ i=AQ[i]:=by unfold lb;rw [List.getElem?_eq_getElem hdi];rfl
  rw [h2,h1]
  have h3:=hc i
  simp only [List.cons.injEq,and_true] at e0
  rw [← e0]
  exact h3.trans (by simp [J8])
 exact ⟨World.block_lt_of_cell? W ⟨0,0,none⟩ (hall 0 (by decide)),hall⟩
end Go.Proofs.YtdpmbgomcjnohaaGreatDoor
namespace Go.Proofs.YtdpmbgomcjnohaaGreatDoor
open Go.ChangeShapes Go.WideShapes Go.ChangeAt Go.RowKit
set_option linter.all false
set_option maxRecDepth 100000
set_option maxHeartbeats 8000000
theorem Hg (os:Os) (started:os.Started) (H:Type) (enc:TypeId × Value→H) :
  ReturnsInHanded {} Tryz.checked os 7 .any (fun w args=>(Rows.dyadMakesSpec.pre enc Tryz.prog Tryz.f7 [] false w args∧laidMetH Tryz.prog jM w)∧sizedMet enc Tryz.prog Tryz.f7 (OpenSpec.ofChange Rows.dyadMakesSpec) false w args)
   (Rows.dyadMakesSpec.post enc Tryz.prog Tryz.f7 false true false false):=by
 refine returnsInHanded_of_change_and (C:=Tryz.checked) (X:=fun w _=>laidMetH Tryz.prog jM w) (fun _ _ _ hh h=>h.of_heap hh) own started (by kernel_rfl) Tryz.func7
  (ChangeSpec.witness_shaped (enc:=enc) (C:=Tryz.checked) (os:=os) (X:=fun w _=>laidMetH Tryz.prog jM w) false (World.laidAll Tryz.prog os jM) #[.agg #[.bool false,.slice none 0 0],.int .i16 0,.int .u8 0] 8 (World.laidAll_os _ _ _) (World.shaped_of_ZipB (by kernel_rfl) (by kernel_rfl)) (by kernel_rfl) (by kernel_rfl) (by kernel_rfl) (qE os _)) ?_
 intro W base args ds gs before hval0 hW _ _ hL _
 have hval:∀ (j:Nat) t v,Tryz.f7.params[j]?=some t→args[j]?=some v→Value.okWide Tryz.prog W .any base t v:=hval0
 have hW':=hW
 obtain ⟨p,q,D9,hV,rfl,hfz,hnd⟩:=hW
 have hA:DataW.TrodAll enc Tryz.prog W 0 (fun _=>true) true Tryz.f7.params.toList args.toList ds p:=D9
 rw [Tryz.params7] at hA hval
 clear D9 hval0
 obtain ⟨v0,vs0,d0,ds0,p0,q0,EE,rfl,rfl,h0,r0⟩:=trodAll_cons hA
 obtain ⟨v1,vs1,d1,ds1,p1,q1,vT,rfl,rfl,h1,r1⟩:=trodAll_cons r0
 obtain ⟨v2,vs2,d2,ds2,p2,q2,xD,rfl,rfl,h2,r2⟩:=trodAll_cons r1
 obtain ⟨hn1,rfl,rfl⟩:=trodAll_nil r2
 subst hn1
 subst xD
 subst vT
 obtain rfl:args=#[v0,v1,v2]:=by cases args;simp_all
 obtain ⟨rfl,rfl⟩:=trodVars_none hV
 obtain ⟨s0,A0,c0,x0,hv0,u0⟩:=M3 (hval 0 24 v0 rfl rfl) h0
 subst hv0
 obtain ⟨z1,rfl,rfl,rfl,hz1⟩:=open_int Tryz.underlying27 (hval 1 27 v1 rfl rfl) h1
 have hb1:=bounds_i16 hz1
 obtain ⟨z2,rfl,rfl,rfl,hz2⟩:=open_int Tryz.underlying5 (hval 2 5 v2 rfl rfl) h2
 have hb2:=bounds_u8 hz2
 obtain ⟨n2,rfl⟩:=Int.eq_ofNat_of_zero_le (show 0≤z2 by omega)
 refine (J4 W (nk hL) s0 A0 c0 x0 u0 z1 hb1 n2 (by omega)).mono fun e W' ⟨he,hB⟩=>?_
 subst he
 exact ⟨_,rfl,qC hW' rfl (by rw [Tryz.params7];decide +kernel) rfl rfl rfl rfl hB⟩
theorem J9:Rows.DyadMakesSaid :=
 OpenClaim.holds_of_wide 7 Tryz.f7 rfl rfl rfl rfl rfl rfl rfl ⟨rfl,rfl,rfl,rfl,rfl⟩ rfl rfl rfl rfl rfl (by kernel_rfl) Tryz.func7 (by kernel_rfl)
  (of_decide_eq_true (by kernel_rfl)) (by unfold Func.isWrapper;first | (rw [if_pos (by decide +kernel)];kernel_rfl) | (rw [if_neg (by decide +kernel)];exact ⟨rfl,rfl⟩))
  (fun os started H enc _=>Hg os started H enc)
theorem dyadMakes_holds:Rows.DyadMakesCardSaid :=
 Claim7.holds_tied_plain_at .later [] [.data,.wider] true Rows.dyadMakesCard.stood.harness false
  J9 (fun _ h=>by cases h) (by kernel_rfl) (fun _ h=>by cases h) dyadMakes_row_tie rfl ⟨rfl,rfl⟩ (by kernel_rfl) rfl
  (fun f fn hf hfn=>by
   obtain rfl:f = 7 := Option.some.inj ((show Tryz.prog.funcNamed "ziggurat/zigguratlaw10.DyadMakes" = some 7 by kernel_rfl).symm.trans hf) |>.symm
   obtain rfl:fn=Tryz.f7 := (Option.some.inj (Tryz.func7.symm.trans hfn)).symm
   exact ⟨by kernel_rfl,fun j t ht=>by
    rw [Tryz.params7] at ht
    have hm:t∈[24,27,5]:=by simpa using Array.mem_of_getElem? ht
    have hall:([24,27,5].all fun u=>!Tryz.prog.wantsStandIn u)=true:=by kernel_rfl
    exact (show Tryz.prog.wantsStandIn t=false by simpa using List.all_eq_true.1 hall t hm)⟩)
  (by kernel_rfl)
end Go.Proofs.YtdpmbgomcjnohaaGreatDoor
