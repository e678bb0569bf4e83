/- DyadRing, and what it leans on beyond the base. -/
import Derived.Test.YtdpmbgomcjnohaaGreatDoorBaa
import Derived.Test.YtdpmbgomcjnohaaGreatDoorBab
import Derived.Test.YtdpmbgomcjnohaaGreatDoorBag
import Derived.Test.YtdpmbgomcjnohaaGreatDoorBad
import Derived.Test.YtdpmbgomcjnohaaGreatDoorBaj
import Derived.Test.YtdpmbgomcjnohaaGreatDoorBai
import Derived.Test.YtdpmbgomcjnohaaGreatDoorBam
import Derived.Test.YtdpmbgomcjnohaaGreatDoorBap
import Derived.Test.YtdpmbgomcjnohaaGreatDoorBaq
import Derived.Test.YtdpmbgomcjnohaaGreatDoorBas
import Derived.Test.YtdpmbgomcjnohaaGreatDoorBar
import Derived.Test.YtdpmbgomcjnohaaGreatDoorBat
import Derived.Test.YtdpmbgomcjnohaaGreatDoorBav
import Derived.Test.YtdpmbgomcjnohaaGreatDoorBau
import Derived.Test.YtdpmbgomcjnohaaGreatDoorBax
import Derived.Test.YtdpmbgomcjnohaaGreatDoorBbb
import Derived.Test.YtdpmbgomcjnohaaGreatDoorBbc
import Derived.Test.YtdpmbgomcjnohaaGreatDoorBbe
import Derived.Deep.MidRow
import Derived.Deep.WholeRow
import Derived.Laws.CopyOwn
import Derived.WalkKit
import Derived.SevenTiedAt
import Derived.LaidMore
import Derived.Stop.Joined
import Derived.JoinedOf
import Derived.JoinedAt
import Derived.Lib.SmallJoins
import Derived.Deep.RegionHeld3
import Derived.Scope
import Derived.Lib.SlTrimSet
import Derived.Lib.Bytealg
import Derived.Laws.Concat
import Derived.Lay
import Derived.LaidOnce

namespace Go.Proofs.YtdpmbgomcjnohaaGreatDoor.Pl
open Go
set_option linter.all false
set_option maxRecDepth 100000
set_option maxHeartbeats 8000000
/-! A function without loops, walked with its frame as a list of what is known. -/
section
variable {P:Program} {Q:Exit→Act→World→Prop} {n:Nat} {ds:List Deferred} {cs:List Code} {l:List (Nat × Value)} {w:World} {x y:Code}
theorem aW {L:List Oper} {S:World→Prop} {f M:Nat} {Q:Exit→Act→World→Prop} (l':List (Nat × Value)) (hl:EB l l') (h:G P L S Q n ds f M l' w):G P L S Q n ds f M l w:=fun a listed ha hL hS=>h a listed (ha.less (rJ hl)) hL hS
theorem fP {L:List Oper} {S:World→Prop} {g M:Nat} {Q:Exit→Act→World→Prop} (f e:Nat) (R:List (Nat × Value)→World→Prop) (h1:∀ l' w',R l' w'→G P L S Q n ds f e l' w') (h2:(∀ l' w',R l' w'→G P L S Q n ds f e l' w')→G P L S Q n ds g M l w):G P L S Q n ds g M l w:=h2 h1
open Classical in
end
section
variable {P:Program} {L:List Oper} {S:World→Prop} {K:List (Nat × Value)→World→Prop} {k:Bool} {i m d:Nat} {o:Oper} {r:List (Bool × Nat × Nat)} {l:List (Nat × Value)} {w w':World} {v:Value}
end
end Go.Proofs.YtdpmbgomcjnohaaGreatDoor.Pl
namespace Go.Proofs.YtdpmbgomcjnohaaGreatDoor.Pl
open Go
set_option linter.all false
set_option maxRecDepth 100000
set_option maxHeartbeats 8000000
/-! Steps for any program: numbers, slices, memory. -/
section
variable {P:Program} {T:TypeId} {x y:Operand} {k k':IntKind} {a b c:Int} {v:Bool}
theorem wD (h0:b≠0) (h:a.tmod b=c) (X:World):Bn P .rem T x y (.int k a) (.int k b) X = .ok (.int k c) X:=by
 subst h;simp [Bn,eqGuard,binOp,Op.intDiv,h0]
theorem CZ (h:decide (a≤b)=v) (X:World):Bn P .leq T x y (.int k a) (.int k b) X = .ok (.bool v) X:=by
 subst h;simp [Bn,eqGuard,binOp,Op.intCmp]
end
section
variable {P:Program} {T:TypeId} {x y:Operand} {a b c:Nat}
end
/-! Operations whose value follows from what is known alone. -/
section
variable {P:Program} {L:List Oper} {S:World→Prop} {K:List (Nat × Value)→World→Prop} {k:Bool} {i m d:Nat} {o:Oper} {r:List (Bool × Nat × Nat)} {l:List (Nat × Value)} {w w':World} {v:Value}
end
end Go.Proofs.YtdpmbgomcjnohaaGreatDoor.Pl
namespace Go.Proofs.YtdpmbgomcjnohaaGreatDoor
open Go.ChangeShapes Go.WideShapes Go.ChangeAt Go.RowKit
set_option linter.all false
set_option maxRecDepth 100000
set_option maxHeartbeats 8000000
theorem laidOut:laidOutB Tryz.prog=true:=by kernel_rfl
theorem rY:Tryz.prog.cellsOf 67 = 1:=by kernel_rfl
theorem gZ {H:Type} {enc:TypeId × Value→H} {W W':World} {sp:Nat→Bool} (hB:Ext W W'):∀ {ts:List TypeId} {vs:List Value} {ds:List (DataW H)} {ps:List MemPlace},
  (∀ t∈ts,Tryz.prog.readableRec t=true∧t<Tryz.prog.types.size)→DataW.TrodAll enc Tryz.prog W 0 (fun _=>true) true ts vs ds ps→(∀ p∈ps,p.block<W.heap.size)→(∀ p∈ps,sp p.block=true)→DataW.TrodAll enc Tryz.prog W' 0 sp true ts vs ds ps
 | [],[],[],_,_,h,_,_=>h
 | t::_,_::_,_::_,_,hT,⟨p,q,h1,h2,e⟩,hlt,hs=>⟨p,q,
  WideElems.Trod_stays laidOut (hT t (List.mem_cons_self ..)).1 (hT t (List.mem_cons_self ..)).2 h1 (fun x hx=>Below.same hB (hlt x (by rw [e];exact List.mem_append_left _ hx))) (fun x hx=>hs x (by rw [e];exact List.mem_append_left _ hx)),
  gZ hB (fun t ht=>hT t (List.mem_cons_of_mem _ ht)) h2 (fun x hx=>hlt x (by rw [e];exact List.mem_append_right _ hx)) (fun x hx=>hs x (by rw [e];exact List.mem_append_right _ hx)),e⟩
theorem qC {H:Type} {enc:TypeId × Value→H} {f:Func} {s:ChangeSpec} {apart fresh handsOn again:Bool} {W W':World} {args:Array Value} {ds gs:List (DataW H)} {before:List MemPlace}
  (hW:DataW.Whole enc Tryz.prog f.params.toList s.vars apart W args.toList ds gs before) (hv:s.vars=[]) (hT:∀ t∈f.params.toList,Tryz.prog.readableRec t=true∧t<Tryz.prog.types.size)
  (hres:f.resultTypes=#[4]) (hfn:(s.fn H (ds++gs)).results=[.lit (.bool true)]) (hfa:(s.fn H (ds++gs)).args=ds) (Qr:(s.fn H (ds++gs)).vars=[]) (hB:Ext W W') :
  s.post enc Tryz.prog f apart fresh handsOn again W args (.bool true) W':=by
 have hlt:∀ p∈before,p.block<W.heap.size:=fun p hp=>hW.lt p hp
 have hold:∀ p∈before,(fun b=>decide (b<W.heap.size)) p.block=true:=fun p hp=>by simpa using hlt p hp
 have hres':∀ (b:Nat) (sp:Nat→Bool) (hd:Bool),DataW.TrodAll enc Tryz.prog W' b sp hd f.resultTypes.toList ((Value.bool true).resultList f.resultTypes.size) (s.fn H (ds++gs)).results []:=by
  intro b sp hd
  rw [hres,hfn]
  exact trodAll_mk1 (shut_bool Tryz.underlying4 _)
 have hW2:=hW
 obtain ⟨p,q,hA,hV,hpq,hz,hn⟩:=hW
 rw [hv] at hV
 obtain ⟨_,rfl⟩:=trodVars_none hV
 rw [List.append_nil] at hpq
 subst hpq
 have hargs:∀ sp:Nat→Bool,(∀ p'∈before,sp p'.block=true)→DataW.TrodAll enc Tryz.prog W' 0 sp true f.params.toList args.toList (s.fn H (ds++gs)).args before:=fun sp hs=>by
  rw [hfa];exact gZ hB hT hA hlt hs
 have hvars:∀ sp:Nat→Bool,DataW.TrodVars enc Tryz.prog W' sp s.vars (s.fn H (ds++gs)).vars []:=fun sp=>by rw [hv,Qr];exact rfl
 refine ⟨ds,gs,before,[],before,[],hW2,hres' _ _ _,hargs _ hold,hvars _,World.keptBut_mono (fun p hp=>⟨hp,?_⟩) (Below.frame hB (·∈before)),fun _=>?_⟩
 · simpa using hp
 · refine ⟨ok_one hres rfl (okWide_bool_mk Tryz.underlying4 _),_,_,([]++before)++[],⟨[]++before,[],trodAll_append (hargs _ (fun _ _=>rfl)) (hres' _ _ _),hvars _,rfl,?_,?_⟩,?_⟩
   · intro b off hp
     have hin:MemPlace.cell b off∈before:=by simpa using hp
     rw [Below.frozen hB (hlt _ hin)]
     exact hz b off hin
   · intro ha
     have:=hn ha
     simpa using this
   · intro p hp _
     simpa using hp
end Go.Proofs.YtdpmbgomcjnohaaGreatDoor
namespace Go.Proofs.YtdpmbgomcjnohaaGreatDoor
open Go.ChangeShapes Go.WideShapes Go.ChangeAt Go.RowKit
set_option linter.all false
set_option maxRecDepth 100000
set_option maxHeartbeats 8000000
theorem kJ {H:Type} {enc:TypeId × Value→H} {W:World} {fuel:Nat} {v:Value} {y:DataW H × List MemPlace} (hf:DataW.trod enc Tryz.prog W 0 (fun _=>true) true fuel 22 [v]=some y) :
  ∃ xs:List Nat,U W v xs:=by
 rcases open_ints Tryz.underlying22 Tryz.underlying67 rY hf with ⟨hcs,hx⟩ | ⟨a,len,cap',zs,hcs,_,hl,hm,hz,hx,hcell,hwz⟩
 · simp at hcs
   subst hcs
   exact ⟨[],U.AU _ _ _⟩
 · simp at hcs
   subst hcs
   simp only [if_true] at hz
   have hlen:((zs.take len).map Int.toNat).length=len:=by simp;omega
   have hb:∀ z∈zs,0≤z∧z<4294967296:=fun z hzz=>by have:=bounds_u32 (hwz z hzz);omega
   refine ⟨(zs.take len).map Int.toNat,some a,cap',by rw [hlen],⟨by rw [hlen];exact hl,by rw [hlen];unfold maxLen at hm;omega⟩,?_,fun h0=>⟨a,rfl,?_,fun j hj=>?_⟩⟩
   · intro x hx'
     obtain ⟨z,hz1,rfl⟩:=List.mem_map.1 hx'
     have:=hb z (List.mem_of_mem_take hz1)
     omega
   · rw [hlen] at h0
     have hc:=hcell 0 (by omega)
     rw [lX] at hc
     unfold World.cell? at hc
     rcases Nat.lt_or_ge a.block W.heap.size with h | h
     · exact h
     · rw [Array.getElem?_eq_none h] at hc;cases hc
   · rw [hlen] at hj
     have hjz:j<zs.length:=by omega
     have e:lb ((zs.take len).map Int.toNat) j=(zs.getD j 0).toNat:=by
      simp [lb,hj,hjz]
     rw [hcell j hjz,e]
     have hmem:zs.getD j 0∈zs:=by simp [hjz]
     have:=hb _ hmem
     rw [show (((zs.getD j 0).toNat:Nat):Int)=zs.getD j 0 by omega]
end Go.Proofs.YtdpmbgomcjnohaaGreatDoor
namespace Go.Proofs.YtdpmbgomcjnohaaGreatDoor
open Go.RowKit
set_option linter.all false
set_option maxRecDepth 100000
set_option maxHeartbeats 8000000
def gN (xs:List Nat) (k:Nat):Nat:=val (xs.take k)
theorem kW (xs:List Nat) (k:Nat) (hx:∀ x∈xs,x<4294967296):(limbs (gN xs k)).length≤k:=by
 apply lJ
 have:=wE (xs.take k) (fun x h=>hx x (List.mem_of_mem_take h))
 refine Nat.lt_of_lt_of_le this (Nat.pow_le_pow_right (by decide) ?_)
 rw [List.length_take];omega
theorem ni (w:World) (v:Value) (xs:List Nat) (k:Int) (hk0:0≤k) (hk1:k≤1000000000) (h:U w v xs) :
  Calls Tryz.prog 63 #[v,.int .i64 k] w fun e w'=>(∃ u,e = .returned u∧Un w' u (gN xs k.toNat))∧Below w.heap.size w w':=by
 have h':=h
 obtain ⟨A,c,rfl,⟨hc,hm⟩,hx,hr⟩:=h
 clear hr
 by_cases hl:(xs.length:Int)≤k
 · have hu:=fG w _ xs h' (by omega)
   have HT:Hid (xs.take k.toNat=xs):=List.take_of_length_le (by omega)
   have hmin:min (xs.length:Int) k=xs.length:=by omega
   go_enter Tryz.func63,Tryz.ntmps63
   go_wp2_with (go_at_call 100;refine hu.mono ?_;rintro e w' ⟨⟨z,rfl,hz⟩,hB⟩)
   go_ret
   exact ⟨⟨_,rfl,by rw [Un,gN,HT.out];exact hz⟩,hB⟩
 · obtain ⟨k,rfl⟩:=Int.eq_ofNat_of_zero_le hk0
   have hu:=fG w _ _ (h'.take (k:=k) (c':=c) (by omega) (by omega)) (by rw [List.length_take];omega)
   have hmin:min (xs.length:Int) (k:Int)=k:=by omega
   go_enter Tryz.func63,Tryz.ntmps63
   go_wp2_with (go_at_call 100;refine hu.mono ?_;rintro e w' ⟨⟨z,rfl,hz⟩,hB⟩)
   go_ret
   exact ⟨⟨_,rfl,by rw [Un,gN,Int.toNat_natCast];exact hz⟩,hB⟩
end Go.Proofs.YtdpmbgomcjnohaaGreatDoor
namespace Go.Proofs.YtdpmbgomcjnohaaGreatDoor
open Go.RowKit
set_option linter.all false
set_option maxRecDepth 100000
set_option maxHeartbeats 8000000
theorem uh (w:World) (v:Value) (xs:List Nat) (k:Int) (h:U w v xs) (hk0:0≤k) (hk1:k≤1000000000) (n:Nat) (hn:gN xs k.toNat=n) :
  Calls Tryz.prog 63 #[v,.int .i64 k] w fun e w'=>∃ u,e = .returned u∧Un w' u n∧Ext w w':=by
 subst hn
 exact (ni w v xs k hk0 hk1 h).mono fun e w' ⟨⟨u,he,hu⟩,hb⟩=>⟨u,he,hu,hb⟩
end Go.Proofs.YtdpmbgomcjnohaaGreatDoor
namespace Go.Proofs.YtdpmbgomcjnohaaGreatDoor
open Go.RowKit
set_option linter.all false
set_option maxRecDepth 100000
set_option maxHeartbeats 8000000
theorem rZ (w:World) (v:Value) (xs:List Nat) (h:U w v xs) :
  Calls Tryz.prog 99 #[v] w fun e w'=>e = .returned (.bool (jK xs))∧w=w':=by
 obtain ⟨A,c,rfl,⟨hc,hm⟩,hx,hr⟩:=h
 by_cases hlen:xs.length≤65536
 · rcases Nat.eq_zero_or_pos xs.length with h0 | h0
   · obtain rfl:=List.eq_nil_of_length_eq_zero h0
     go_enter Tryz.func99,Tryz.ntmps99
     go_wp2
     go_ret
     exact ⟨rfl,rfl⟩
   · obtain ⟨ad,rfl,hb,hcell⟩:=hr h0
     have hc1:=hcell (xs.length-1) (by omega)
     have hne:(((xs.length:Nat):Int)==0)=false:=by rw [beq_eq_false_iff_ne];omega
     have hres:jK xs=(lb xs (xs.length-1) != 0):=by
      unfold jK
      have:xs.isEmpty=false:=by cases xs<;>simp_all
      simp [hlen,this]
     have HR:=Lib.hid hres
     clear hres
     go_enter Tryz.func99,Tryz.ntmps99
     go_wp2
     go_ret
     exact ⟨by rw [HR.out,← bne_cast];rfl,rfl⟩
 · have hres:jK xs=false:=by unfold jK;simp [hlen]
   have hne:(((xs.length:Nat):Int)==0)=false:=by rw [beq_eq_false_iff_ne];omega
   have HR:=Lib.hid hres
   clear hres
   go_enter Tryz.func99,Tryz.ntmps99
   go_wp2
   go_ret
   exact ⟨by rw [HR.out];rfl,rfl⟩
end Go.Proofs.YtdpmbgomcjnohaaGreatDoor
namespace Go.Proofs.YtdpmbgomcjnohaaGreatDoor
open Go.RowKit
set_option linter.all false
set_option maxRecDepth 100000
set_option maxHeartbeats 8000000
attribute [local go_sem ↓] kV
attribute [local go_sem] fQ
theorem qF (o:List Nat) (N:Nat) (h:∀ j,j<o.length→lb o j=N/4294967296^j%4294967296):val o=N%4294967296^o.length:=by
 have key:∀ j,j≤o.length→val (o.take j)=N%4294967296^j:=by
  intro j
  induction j with
  | zero=>intro _;simp [val,Nat.mod_one]
  | succ j ih =>
   intro hj
   rw [mM o j (by omega),ih (by omega),h j (by omega),Nat.mod_pow_succ,Nat.mul_comm]
 have:=key o.length (Nat.le_refl _)
 rwa [List.take_length] at this
theorem rP (n q S k:Nat) (hS:S<32) :
  (lb (limbs n) (q+k)+4294967296*(lb (limbs n) (q+k+1)%2^S))/2^S%4294967296=n/2^(32*q+S)/4294967296^k%4294967296:=by
 rw [qB,qB]
 have e1:n/2^(32*q+S)/4294967296^k=n/4294967296^(q+k)/2^S:=by
  rw [Nat.div_div_eq_div_mul,Nat.div_div_eq_div_mul,Nat.pow_add 2,← sQ,Nat.pow_add 4294967296,Nat.mul_right_comm]
 have e2:n/4294967296^(q+k+1)=n/4294967296^(q+k)/4294967296:=by
  rw [Nat.pow_succ,Nat.div_div_eq_div_mul]
 rw [e1,e2]
 generalize n/4294967296^(q+k)=V
 have hd:2^S∣4294967296:=⟨2^(32-S),by rw [← Nat.pow_add,show S+(32-S)=32 by omega]⟩
 rw [Nat.mod_mod_of_dvd _ hd]
 have hp:0<2^S:=Nat.two_pow_pos S
 generalize 2^S=P at *
 have e3:V=V%4294967296+4294967296*(V/4294967296%P)+P*(4294967296*(V/4294967296/P)):=by
  have a1:=Nat.div_add_mod V 4294967296
  have a2:=Nat.div_add_mod (V/4294967296) P
  have a3:4294967296*(V/4294967296)=P*(4294967296*(V/4294967296/P))+4294967296*(V/4294967296%P):=by
   conv=>lhs;rw [← a2]
   rw [Nat.mul_add,Nat.mul_left_comm]
  omega
 conv=>rhs;rw [e3]
 rw [Nat.add_mul_div_left _ _ hp,Nat.add_mul_mod_self_left]
theorem wX (a b P:Nat) (ha:a<4294967296) (kZ:0<P) (hP:P<4294967296) :
  (IntKind.u64.wrap ((IntKind.u64.wrap ((a:Int)+IntKind.u64.wrap (4294967296*((b:Int)%(P:Int))))).tdiv (P:Int))).tmod 4294967296%4294967296=(((a+4294967296*(b%P))/P%4294967296:Nat):Int):=by
 have hr:b%P<P:=Nat.mod_lt _ kZ
 rw [← Int.natCast_emod]
 generalize b%P=r at *
 rw [show IntKind.u64.wrap (4294967296*(r:Int))=4294967296*(r:Int) by rw [IntKind.wrap_u64];omega]
 rw [show IntKind.u64.wrap ((a:Int)+4294967296*(r:Int))=((a+4294967296*r:Nat):Int) by rw [IntKind.wrap_u64];omega]
 have hX:a+4294967296*r<18446744073709551616:=by omega
 generalize a+4294967296*r=X at *
 have hY:X/P<18446744073709551616:=Nat.lt_of_le_of_lt (Nat.div_le_self _ _) hX
 rw [Int.tdiv_eq_ediv_of_nonneg (by omega),← Int.natCast_ediv]
 generalize X/P=Y at *
 rw [IntKind.wrap_u64,Int.tmod_eq_emod_of_nonneg (by omega)]
 omega
theorem qG (w:World) (v:Value) (n:Nat) (k0:Nat) (hk:k0≤100000000) (h:Un w v n) (hl:(limbs n).length≤100000000) :
  Calls Tryz.prog 66 #[v,.int .i64 (k0:Int)] w fun e w'=>(∃ u,e = .returned u∧Un w' u (n/2^k0))∧Below w.heap.size w w':=by
 obtain ⟨A,c,rfl,⟨hc,hm⟩,hx,hr⟩:=id h
 clear hr
 obtain ⟨Q,hQ⟩:∃ Q,k0/32=Q:=⟨_,rfl⟩
 obtain ⟨S,hS⟩:∃ S,k0%32=S:=⟨_,rfl⟩
 have eQ:(k0:Int)/32=(Q:Int):=by omega
 have eS:(k0:Int)%32=(S:Int):=by omega
 have HK:Hid (k0=32*Q+S):=by rw [Hid];omega
 have qO:S<32:=by omega
 have Ty:Q≤100000000:=by omega
 go_enter Tryz.func66,Tryz.ntmps66
 go_wp2_with (fail)
 have hown0:Own (w.alloc (.cells #[] 67)) w.heap.size (.slice (some ⟨w.heap.size,0,none⟩) 0 0) []:=World.ownsRow_lit w #[] 0 (Nat.le_refl _) (Nat.zero_le _) rfl
 have hB0:Below w.heap.size w (w.alloc (.cells #[] 67)):=(Below.refl _ _).alloc (Nat.le_refl _) _
 go_loop [6,7] (fun b i=>∃ j:Nat,j≤S∧i = .int .i64 j∧b = .int .u64 (2^j:Nat)) (fun _ i=>S-(intOf i).toNat)
 case atStart=>exact ⟨0,Nat.zero_le _,rfl,rfl⟩
 case round =>
  obtain ⟨j,hj,rfl,rfl⟩:=hrel
  have hp1:2^j<4294967296:=Nat.lt_of_le_of_lt (Nat.pow_le_pow_right (by decide) (show j≤31 by omega)) (by decide)
  by_cases hd2:j<S
  · have HN:Hid (2*((2^j:Nat):Int)=((2^(j+1):Nat):Int)):=by rw [Hid,Nat.pow_succ];omega
    obtain ⟨X,hX⟩:∃ X,2^j=X:=⟨_,rfl⟩
    rw [hX] at HN hp1
    rw [hX]
    clear hX
    go_wp2
    go_round
    case rel=>exact ⟨j+1,by omega,by go_num,by rw [← HN.out]⟩
    case measure=>simp [intOf];omega
  · obtain rfl:j=S:=by omega
    have hp0:0<2^j:=Nat.two_pow_pos j
    have HD:Hid (∀ k,(lb (limbs n) (Q+k)+4294967296*(lb (limbs n) (Q+k+1)%2^j))/2^j%4294967296=n/2^k0/4294967296^k%4294967296):=fun k=>by
     rw [HK.out];exact rP n Q j k qO
    have HT:Hid (n/2^k0<4294967296^((limbs n).length-Q)):=by
     rw [Hid,Nat.div_lt_iff_lt_mul (Nat.two_pow_pos _)]
     refine Nat.lt_of_lt_of_le (pz n) ?_
     rw [HK.out,Nat.pow_add,← sQ,← Nat.mul_assoc,← Nat.pow_add]
     exact Nat.le_trans (Nat.pow_le_pow_right (by decide) (show (limbs n).length≤(limbs n).length-Q+Q by omega)) (Nat.le_mul_of_pos_right _ hp0)
    obtain ⟨P,hP⟩:∃ P,2^j=P:=⟨_,rfl⟩
    rw [hP] at hp0 hp1 HD
    rw [hP]
    clear hP
    go_wp2_with (fail)
    go_loopw [5,8] (fun s i wr=>∃ (m:Nat) (o:List Nat),(m=0∨Q+m≤(limbs n).length)∧i = .int .i64 ((Q+m:Nat):Int)∧Hid (o.length=m∧(∀ x∈o,x<4294967296)∧∀ t,t<m→lb o t=n/2^k0/4294967296^t%4294967296)∧Own wr w.heap.size s o∧Below w.heap.size w wr) (fun _ i _=>(limbs n).length-(intOf i).toNat)
    case atStart=>exact ⟨0,[],Or.inl rfl,rfl,⟨rfl,by simp,fun t ht=>by omega⟩,hown0,hB0⟩
    case round =>
     clear hown0 hB0
     obtain ⟨m,o,hm1,rfl,HO,hown,hB⟩:=hrel
     have hlen:=HO.out.1
     by_cases hd3:Q+m<(limbs n).length
     · have h1:=iV hx (Q+m)
       have h2:=iV hx (Q+m+1)
       obtain ⟨x1,hx1⟩:∃ x1,(lb (limbs n) (Q+m)+4294967296*(lb (limbs n) (Q+m+1)%P))/P%4294967296=x1:=⟨_,rfl⟩
       have hxl:x1<4294967296:=by rw [← hx1];exact Nat.mod_lt _ (by decide)
       have CY:Hid ((o++[x1]).length=m+1∧(∀ x∈o++[x1],x<4294967296)∧∀ t,t<m+1→lb (o++[x1]) t=n/2^k0/4294967296^t%4294967296):=by
        refine ⟨by simp [hlen],tN HO.out.2.1 hxl,fun t ht=>?_⟩
        rcases Nat.lt_or_ge t m with h6 | h6
        · rw [← HO.out.2.2 t h6];unfold lb;rw [List.getElem?_append_left (by omega)]
        · obtain rfl:t=m:=by omega
          rw [← HD.out t,hx1];unfold lb;rw [List.getElem?_append_right (by omega),hlen,Nat.sub_self];rfl
       have e2:(IntKind.u64.wrap ((IntKind.u64.wrap (((lb (limbs n) (Q+m):Nat):Int)+IntKind.u64.wrap (4294967296*(((lb (limbs n) (Q+m+1):Nat):Int)%(P:Int))))).tdiv (P:Int))).tmod 4294967296%4294967296=(x1:Int):=by rw [← hx1];exact wX _ _ _ h1 hp0 hp1
       obtain ⟨v',w',hrun,hown',hB'⟩:=j6 hB hown ((IntKind.u64.wrap ((IntKind.u64.wrap (((lb (limbs n) (Q+m):Nat):Int)+IntKind.u64.wrap (4294967296*(((lb (limbs n) (Q+m+1):Nat):Int)%(P:Int))))).tdiv (P:Int))).tmod 4294967296%4294967296) x1 e2 hxl (by omega)
       obtain ⟨t1,t2,t3⟩:=kD hrun
       clear hrun hx1 e2 hlen hxl h2 hown hm1
       go_wp2_with (fail)
       refine (fV _ _ (limbs n) _ (Q+m) (by omega) (U.below h hB)).mono ?_
       rintro e w' ⟨rfl,rfl⟩
       go_wp2_with (fail)
       refine (fV _ _ (limbs n) _ (Q+m+1) (by omega) (U.below h hB)).mono ?_
       rintro e w' ⟨rfl,rfl⟩
       go_wp2_with (fail)
       go_roundw
       case rel=>exact ⟨m+1,_,Or.inr (by omega),by go_num,CY,hown',hB'⟩
       case measure=>simp [intOf];omega
     · have HV:Hid (val o=n/2^k0):=by
        rw [Hid,qF o (n/2^k0) (fun t ht=>HO.out.2.2 t (by omega))]
        apply Nat.mod_eq_of_lt
        refine Nat.lt_of_lt_of_le HT.out (Nat.pow_le_pow_right (by decide) (by omega))
       have hu:=hown.CV HO.out.2.1 (by omega)
       have hol:o.length≤1000000000:=by omega
       clear hlen
       go_wp2_with (fail)
       refine (fG _ _ _ hu hol).mono ?_
       rintro e w' ⟨⟨z,rfl,hz⟩,hB2⟩
       have hz2:Un w' z (n/2^k0):=by rw [← HV.out];exact hz
       replace hB:=Below.trans hB (Below.mono hB2 hB.size)
       clear hz
       go_wp2
       go_ret
       exact ⟨⟨_,rfl,hz2⟩,hB⟩
end Go.Proofs.YtdpmbgomcjnohaaGreatDoor
namespace Go.Proofs.YtdpmbgomcjnohaaGreatDoor
open Go.RowKit
set_option linter.all false
set_option maxRecDepth 100000
set_option maxHeartbeats 8000000
theorem y9 (w:World) (v:Value) (xs:List Nat) (h:U w v xs) (b:Bool) (hb:jK xs=b) :
  Calls Tryz.prog 99 #[v] w fun e w'=>e = .returned (.bool b)∧Ext w w' :=
 (rZ w v xs h).mono fun e w' ⟨he,hw⟩=>⟨by rw [he,hb],by rw [← hw];exact Ext.refl w⟩
theorem zk (w:World) (v:Value) (n:Nat) (k:Nat) (h:Un w v n) (hk1:k≤100000000) (hl:(limbs n).length≤100000000) (s:Nat) (hs:n/2^k=s) :
  Calls Tryz.prog 66 #[v,.int .i64 (k:Int)] w fun e w'=>∃ z,e = .returned z∧Un w' z s∧Ext w w':=by
 subst hs
 exact (qG w v n k hk1 h hl).mono fun e w' ⟨⟨z,he,hz⟩,hb⟩=>⟨z,he,hz,hb⟩
end Go.Proofs.YtdpmbgomcjnohaaGreatDoor
namespace Go.Proofs.YtdpmbgomcjnohaaGreatDoor
open Go.RowKit
set_option linter.all false
set_option maxRecDepth 100000
set_option maxHeartbeats 8000000
theorem Qw (w:World) (v:Value) (z:Int) (h:Zn w v z) (y:Int) (hy : -z=y) :
  Calls Tryz.prog 71 #[v] w fun e w'=>∃ u,e = .returned u∧Zn w' u y∧Ext w w':=by
 obtain ⟨b,A,L,c,n,rfl,hu,hL,hz,hb,hza,hzn⟩:=h.open
 have hE0:=((Ext.refl w).alloc (.cells #[.bool b,.slice A L c] 24)).alloc (.cells #[.bool false,.slice none 0 0] 24)
 have hI0:=Ib.new2 w (.cells #[.bool b,.slice A L c] 24) false (.slice none 0 0) 24
 have kZ:=(Ib.new w b (.slice A L c) 24).ext ((Ext.refl _).alloc (.cells #[.bool false,.slice none 0 0] 24))
 have hu0:=hu.below hE0
 have hM:=Lib.hid (fun W h=>qM W (!b) (.slice A L c) (limbs n) h n (aI n) y (by rw [Ka,← hz];exact hy))
 obtain ⟨p0,p1,p2,p3,p4⟩:=id kZ
 clear hz hb hza hzn hL hy h
 go_enter Tryz.func71,Tryz.ntmps71
 go_wp2_with (go_at_call 86;refine (hM.out _ hu0).mono ?_;rintro e w2 ⟨u,rfl,hz2,hE2⟩;obtain ⟨b2,A2,L2,c2,rfl⟩:=hz2.sh;have hI2:=hI0.ext hE2;obtain ⟨i0,i1,i2,i3,i4⟩:=id hI2)
 (try simp only [Exit.inBlock,Exit.then])
 refine bodyPost_ret (v:=.agg #[.bool b2,.slice A2 L2 c2]) (show (results _ _).run _ _=_ from ?_) rfl ⟨_,rfl,hz2.fZ hI2 (dw _ _ _) _ _,(hE0.below hE2).fZ (by simp) _ _⟩
 simp only [results]
 go_simp
end Go.Proofs.YtdpmbgomcjnohaaGreatDoor
namespace Go.Proofs.YtdpmbgomcjnohaaGreatDoor
open Go.RowKit
set_option linter.all false
set_option maxRecDepth 100000
set_option maxHeartbeats 8000000
theorem vO {w X Y:World} {p:Bool} {mp:Value} (h:(w.heap.size+1<X.heap.size∧X.cell? ⟨w.heap.size,0,none⟩=some (.bool p)∧X.cell? ⟨w.heap.size,1,none⟩=some mp)∧Ext w X) (k:Ext X Y):(w.heap.size+1<Y.heap.size∧Y.cell? ⟨w.heap.size,0,none⟩=some (.bool p)∧Y.cell? ⟨w.heap.size,1,none⟩=some mp)∧Ext w Y:=by
 obtain ⟨⟨h0,h1,h2⟩,hx⟩:=h
 have hs:=k.size
 exact ⟨⟨by omega,(k.cell (p:=⟨w.heap.size,0,none⟩) (by show w.heap.size<_;omega)).trans h1,(k.cell (p:=⟨w.heap.size,1,none⟩) (by show w.heap.size<_;omega)).trans h2⟩,hx.below k⟩
theorem vP {w X:World} {p:Bool} {mp x y:Value} (h:(w.heap.size+1<X.heap.size∧X.cell? ⟨w.heap.size,0,none⟩=some (.bool p)∧X.cell? ⟨w.heap.size,1,none⟩=some mp)∧Ext w X):(w.heap.size+1<((X.setCell ⟨w.heap.size+1,0,none⟩ x).setCell ⟨w.heap.size+1,1,none⟩ y).heap.size∧((X.setCell ⟨w.heap.size+1,0,none⟩ x).setCell ⟨w.heap.size+1,1,none⟩ y).cell? ⟨w.heap.size,0,none⟩=some (.bool p)∧((X.setCell ⟨w.heap.size+1,0,none⟩ x).setCell ⟨w.heap.size+1,1,none⟩ y).cell? ⟨w.heap.size,1,none⟩=some mp)∧Ext w ((X.setCell ⟨w.heap.size+1,0,none⟩ x).setCell ⟨w.heap.size+1,1,none⟩ y):=by
 obtain ⟨⟨h0,h1,h2⟩,hx⟩:=h
 have hc:∀ a:Addr,a.block≠w.heap.size+1→((X.setCell ⟨w.heap.size+1,0,none⟩ x).setCell ⟨w.heap.size+1,1,none⟩ y).cell? a=X.cell? a:=fun a ha=>by
  rw [World.cell?_setCell_other _ _ _ _ (fun e=>ha (by rw [← e])),World.cell?_setCell_other _ _ _ _ (fun e=>ha (by rw [← e]))]
 refine ⟨⟨by simpa using h0,?_,?_⟩,hx.fZ (by omega) _ _⟩
 · rw [hc _ (by show w.heap.size≠_;omega)];exact h1
 · rw [hc _ (by show w.heap.size≠_;omega)];exact h2
theorem uB {w X Y:World} {p q:Bool} {mp mq:Value} (h:(w.heap.size+1+1<X.heap.size∧X.cell? ⟨w.heap.size,0,none⟩=some (.bool p)∧X.cell? ⟨w.heap.size,1,none⟩=some mp∧X.cell? ⟨w.heap.size+1,0,none⟩=some (.bool q)∧X.cell? ⟨w.heap.size+1,1,none⟩=some mq)∧Ext w X) (k:Ext X Y):(w.heap.size+1+1<Y.heap.size∧Y.cell? ⟨w.heap.size,0,none⟩=some (.bool p)∧Y.cell? ⟨w.heap.size,1,none⟩=some mp∧Y.cell? ⟨w.heap.size+1,0,none⟩=some (.bool q)∧Y.cell? ⟨w.heap.size+1,1,none⟩=some mq)∧Ext w Y:=by
 obtain ⟨⟨h0,h1,h2,h3,h4⟩,hx⟩:=h
 have hs:=k.size
 exact ⟨⟨by omega,(k.cell (p:=⟨w.heap.size,0,none⟩) (by show w.heap.size<_;omega)).trans h1,(k.cell (p:=⟨w.heap.size,1,none⟩) (by show w.heap.size<_;omega)).trans h2,(k.cell (p:=⟨w.heap.size+1,0,none⟩) (by show w.heap.size+1<_;omega)).trans h3,(k.cell (p:=⟨w.heap.size+1,1,none⟩) (by show w.heap.size+1<_;omega)).trans h4⟩,hx.below k⟩
theorem uC {w X:World} {p q:Bool} {mp mq x y:Value} (h:(w.heap.size+1+1<X.heap.size∧X.cell? ⟨w.heap.size,0,none⟩=some (.bool p)∧X.cell? ⟨w.heap.size,1,none⟩=some mp∧X.cell? ⟨w.heap.size+1,0,none⟩=some (.bool q)∧X.cell? ⟨w.heap.size+1,1,none⟩=some mq)∧Ext w X):(w.heap.size+1+1<((X.setCell ⟨w.heap.size+1+1,0,none⟩ x).setCell ⟨w.heap.size+1+1,1,none⟩ y).heap.size∧((X.setCell ⟨w.heap.size+1+1,0,none⟩ x).setCell ⟨w.heap.size+1+1,1,none⟩ y).cell? ⟨w.heap.size,0,none⟩=some (.bool p)∧((X.setCell ⟨w.heap.size+1+1,0,none⟩ x).setCell ⟨w.heap.size+1+1,1,none⟩ y).cell? ⟨w.heap.size,1,none⟩=some mp∧((X.setCell ⟨w.heap.size+1+1,0,none⟩ x).setCell ⟨w.heap.size+1+1,1,none⟩ y).cell? ⟨w.heap.size+1,0,none⟩=some (.bool q)∧((X.setCell ⟨w.heap.size+1+1,0,none⟩ x).setCell ⟨w.heap.size+1+1,1,none⟩ y).cell? ⟨w.heap.size+1,1,none⟩=some mq)∧Ext w ((X.setCell ⟨w.heap.size+1+1,0,none⟩ x).setCell ⟨w.heap.size+1+1,1,none⟩ y):=by
 obtain ⟨⟨h0,h1,h2,h3,h4⟩,hx⟩:=h
 have hc:∀ a:Addr,a.block≠w.heap.size+1+1→((X.setCell ⟨w.heap.size+1+1,0,none⟩ x).setCell ⟨w.heap.size+1+1,1,none⟩ y).cell? a=X.cell? a:=fun a ha=>by
  rw [World.cell?_setCell_other _ _ _ _ (fun e=>ha (by rw [← e])),World.cell?_setCell_other _ _ _ _ (fun e=>ha (by rw [← e]))]
 refine ⟨⟨by simpa using h0,?_,?_,?_,?_⟩,hx.fZ (by omega) _ _⟩
 · rw [hc _ (by show w.heap.size≠_;omega)];exact h1
 · rw [hc _ (by show w.heap.size≠_;omega)];exact h2
 · rw [hc _ (by show w.heap.size+1≠_;omega)];exact h3
 · rw [hc _ (by show w.heap.size+1≠_;omega)];exact h4
end Go.Proofs.YtdpmbgomcjnohaaGreatDoor
namespace Go.Proofs.YtdpmbgomcjnohaaGreatDoor
open Go.RowKit
set_option linter.all false
set_option maxRecDepth 100000
set_option maxHeartbeats 8000000
/-! Contracts. -/
/-! Comparisons of what nat.Cmp tells. -/
section
variable {P:Program} {T:TypeId} {x y:Operand} {n m:Nat}
end
/-! Numbers of the kinds. -/
section
variable {P:Program} {T:TypeId} {x y:Operand} {a b:Nat} {za zb:Int}
theorem vQ (h0:b≠0) (_:a≤a) (X:World):Pl.Bn P .rem T x y (.int .u32 ((a:Nat):Int)) (.int .u32 ((b:Nat):Int)) X = .ok (.int .u32 ((a%b:Nat):Int)) X:=Pl.wD (by omega) (Int.ofNat_tmod a b).symm X
theorem jR (h0:b≠0) (_:a≤a) (X:World):Pl.Bn P .rem T x y (.int .i64 ((a:Nat):Int)) (.int .i64 ((b:Nat):Int)) X = .ok (.int .i64 ((a%b:Nat):Int)) X:=Pl.wD (by omega) (Int.ofNat_tmod a b).symm X
end
/-! Ways out of loops and blocks. -/
section
variable {P:Program} {Q:Exit→Act→World→Prop} {n:Nat} {ds:List Deferred} {cs:List Code} {l:List (Nat × Value)} {w:World}
end
section
variable {P:Program} {L:List Oper} {S:World→Prop} {K:List (Nat × Value)→World→Prop} {kk:Bool} {i m d:Nat} {o:Oper} {x y:Operand} {r:List (Bool × Nat × Nat)} {l:List (Nat × Value)} {w:World} {k:IntKind} {a b:Nat}
end
end Go.Proofs.YtdpmbgomcjnohaaGreatDoor
namespace Go.Proofs.YtdpmbgomcjnohaaGreatDoor
open Go.RowKit
set_option linter.all false
set_option maxRecDepth 100000
set_option maxHeartbeats 8000000
/-! Structs. -/
section
variable {P:Program} {T:TypeId} {x y:Operand} {a b:Int}
theorem zf (h:a≤b) (X:World):Pl.Bn P .leq T x y (.int .i64 a) (.int .i64 b) X = .ok (.bool true) X:=Pl.CZ (decide_eq_true h) X
theorem zg (h:¬ a≤b) (X:World):Pl.Bn P .leq T x y (.int .i64 a) (.int .i64 b) X = .ok (.bool false) X:=Pl.CZ (decide_eq_false h) X
end
section
variable {P:Program} {L:List Oper} {S:World→Prop} {K:List (Nat × Value)→World→Prop} {kk:Bool} {i m d:Nat} {o:Oper} {x y:Operand} {r:List (Bool × Nat × Nat)} {l:List (Nat × Value)} {w:World} {a b:Int} {k:IntKind}
end
/-! Results that lie in variables. -/
section
variable {n:Nat} {cs:List Code} {l:List (Nat × Value)} {w:World} {fn:Func} {R:Ending→World→Prop}
end
end Go.Proofs.YtdpmbgomcjnohaaGreatDoor
namespace Go.Proofs.YtdpmbgomcjnohaaGreatDoor
open Go.RowKit
set_option linter.all false
set_option maxRecDepth 100000
set_option maxHeartbeats 8000000
theorem xH (p q:Bool) (n m:Nat):sg (!(p==q)) (n*m)=sg p n*sg q m:=by
 cases p<;>cases q<;>simp [sg,Int.mul_neg,Int.neg_mul]
theorem VQ (w:World) (va vb:Value) (a b:Int) (ha:Zn w va a) (hb:Zn w vb b) (hl:(limbs a.natAbs).length≤398) (hl2:(limbs b.natAbs).length≤398) (y:Int) (hy:a*b=y) :
  Calls Tryz.prog 76 #[va,vb] w fun e w'=>∃ u,e = .returned u∧Zn w' u y∧Ext w w':=by
 obtain ⟨p,A,L,c,n,rfl,hu,hL,hz,-,hza,hzn⟩:=ha.open
 obtain ⟨q,B,K,d,m,rfl,hv,hK,hz2,-,pJ,tZ⟩:=hb.open
 rw [hza] at hl
 rw [pJ] at hl2
 obtain ⟨k,hk⟩:∃ k,n*m=k:=⟨_,rfl⟩
 have hM:=Lib.hid (fun W h g=>mulN W (.slice A L c) (.slice B K d) n m k h g hl hl2 hk)
 have Kg:=Lib.hid (fun W v (h:Un W v k)=>qM W (!(p==q)) v (limbs k) h k (aI _) y (by rw [← hk,xH,← hz,← hz2];exact hy))
 have hE0:=((((Ext.refl w).alloc (.cells #[.bool p,.slice A L c] 24)).alloc (.cells #[.bool q,.slice B K d] 24)).alloc (.cells #[.bool false,.slice none 0 0] 24)).drew
 have hI0:=(Ib.zu w (.cells #[.bool p,.slice A L c] 24) (.cells #[.bool q,.slice B K d] 24) false (.slice none 0 0) 24).ext (Ext.refl _).drew
 have kZ:=(Ib.new w p (.slice A L c) 24).ext ((((Ext.refl _).alloc (.cells #[.bool q,.slice B K d] 24)).alloc (.cells #[.bool false,.slice none 0 0] 24)).drew)
 have vW:=(Ib.new2 w (.cells #[.bool p,.slice A L c] 24) q (.slice B K d) 24).ext (((Ext.refl _).alloc (.cells #[.bool false,.slice none 0 0] 24)).drew)
 have hu0:=hu.below hE0
 have hv0:=hv.below hE0
 obtain ⟨p0,p1,p2,p3,p4⟩:=id kZ
 obtain ⟨q0,q1,q2,q3,q4⟩:=id vW
 clear hl hl2 hza hzn pJ tZ hz hz2 hL hK ha hb hy hk
 go_enter Tryz.func76,Tryz.ntmps76
 have hS0:(w.heap.size+1+1<(((w.alloc (.cells #[.bool p,.slice A L c] 24)).alloc (.cells #[.bool q,.slice B K d] 24)).alloc (.cells #[.bool false,.slice none 0 0] 24)).drew.heap.size∧(((w.alloc (.cells #[.bool p,.slice A L c] 24)).alloc (.cells #[.bool q,.slice B K d] 24)).alloc (.cells #[.bool false,.slice none 0 0] 24)).drew.cell? ⟨w.heap.size,0,none⟩=some (.bool p)∧(((w.alloc (.cells #[.bool p,.slice A L c] 24)).alloc (.cells #[.bool q,.slice B K d] 24)).alloc (.cells #[.bool false,.slice none 0 0] 24)).drew.cell? ⟨w.heap.size,1,none⟩=some (.slice A L c)∧(((w.alloc (.cells #[.bool p,.slice A L c] 24)).alloc (.cells #[.bool q,.slice B K d] 24)).alloc (.cells #[.bool false,.slice none 0 0] 24)).drew.cell? ⟨w.heap.size+1,0,none⟩=some (.bool q)∧(((w.alloc (.cells #[.bool p,.slice A L c] 24)).alloc (.cells #[.bool q,.slice B K d] 24)).alloc (.cells #[.bool false,.slice none 0 0] 24)).drew.cell? ⟨w.heap.size+1,1,none⟩=some (.slice B K d))∧Ext w (((w.alloc (.cells #[.bool p,.slice A L c] 24)).alloc (.cells #[.bool q,.slice B K d] 24)).alloc (.cells #[.bool false,.slice none 0 0] 24)).drew:=⟨⟨by simp,p1,p2,q1,q2⟩,hE0⟩
 clear p0 p1 p2 p3 p4 q0 q1 q2 q3 q4
 go_wp2
 go_region_held3 (fun X=>(w.heap.size+1+1<X.heap.size∧X.cell? ⟨w.heap.size,0,none⟩=some (.bool p)∧X.cell? ⟨w.heap.size,1,none⟩=some (.slice A L c)∧X.cell? ⟨w.heap.size+1,0,none⟩=some (.bool q)∧X.cell? ⟨w.heap.size+1,1,none⟩=some (.slice B K d))∧Ext w X)
  (first
   | exact hS0
   | exact uB (by assumption) (by assumption)
   | exact uC (by assumption))
  (first
   | (go_at_call 115;((with_reducible refine (hM.out _ hu0 hv0).mono ?_);rintro e w2 ⟨u,rfl,hu2,hE2⟩;obtain ⟨A2,c2,rfl,hc2⟩:=Un.sh hu2))
   | (go_at_call 86;((with_reducible refine (Kg.out _ _ hu2).mono ?_);rintro e w3 ⟨u,rfl,hz3,aO⟩;obtain ⟨b3,A3,L3,c3,rfl⟩:=hz3.sh;have nX:=(hI0.ext hE2).ext aO;obtain ⟨i0,i1,i2,i3,i4⟩:=id nX)))
 clear nX hM Kg
 go_wp2
 (try simp only [Exit.inBlock,Exit.then])
 refine bodyPost_ret (v:=.agg #[.bool b3,.slice A3 L3 c3]) (show (results _ _).run _ _=_ from ?_) rfl ⟨_,rfl,hz3.fZ ((hI0.ext hE2).ext aO) (dw _ _ _) _ _,((hE0.below hE2).below aO).fZ (by omega) _ _⟩
 simp only [results]
 go_simp
end Go.Proofs.YtdpmbgomcjnohaaGreatDoor
namespace Go.Proofs.YtdpmbgomcjnohaaGreatDoor
open Go.RowKit
set_option linter.all false
set_option maxRecDepth 100000
set_option maxHeartbeats 8000000
theorem zP (w:World) (v:Value) (b:Bool) (xs:List Nat) (h:Ri w v b xs) (r:Bool) (hr:(jK xs&&!(b&&decide (xs.length=0)))=r) :
  Calls Tryz.prog 61 #[v] w fun e w'=>e = .returned (.bool r)∧Ext w w':=by
 obtain ⟨A,c,rfl,hu⟩:=h
 have hE0:=(Ext.refl w).alloc (.cells #[.bool b,.slice A xs.length c] 24)
 have kZ:=Ib.new w b (.slice A xs.length c) 24
 have hu0:=hu.below hE0
 obtain ⟨q,hq⟩:∃ q,jK xs=q:=⟨_,rfl⟩
 have hR:=Lib.hid (y9 _ _ xs hu0 q hq)
 rw [hq] at hr
 obtain ⟨L,hL⟩:∃ L,xs.length=L:=⟨_,rfl⟩
 rw [hL] at hr hR kZ hE0 ⊢
 clear hq hL hu0 hu
 by_cases h0:L=0
 · subst h0
   cases b<;>cases q
   all_goals (
    subst hr
    go_enter Tryz.func61,Tryz.ntmps61
    go_wp2_with (go_at_call 99;refine hR.out.mono ?_;rintro e w2 ⟨rfl,hE2⟩;obtain ⟨p0,p1,p2,p3,p4⟩:=kZ.ext hE2)
    go_ret
    exact ⟨by first | rfl | simp,hE0.below hE2⟩)
 · have h3:(0:Int)<(L:Int):=by omega
   have h4:0<L:=by omega
   rw [decide_eq_false h0] at hr
   cases b<;>cases q
   all_goals (
    subst hr
    go_enter Tryz.func61,Tryz.ntmps61
    go_wp2_with (go_at_call 99;refine hR.out.mono ?_;rintro e w2 ⟨rfl,hE2⟩;obtain ⟨p0,p1,p2,p3,p4⟩:=kZ.ext hE2)
    go_ret
    exact ⟨by first | rfl | simp,hE0.below hE2⟩)
end Go.Proofs.YtdpmbgomcjnohaaGreatDoor
namespace Go.Proofs.YtdpmbgomcjnohaaGreatDoor
open Go.RowKit
set_option linter.all false
set_option maxRecDepth 100000
set_option maxHeartbeats 8000000
theorem vR (w:World) (va:Value) (b:Bool) (xs:List Nat) (ha:Ri w va b xs) (k:Int) (hk0:0≤k) (hk1:k≤1000000) (n:Nat) (hn:gN xs k.toNat=n) (hl:(limbs n).length≤1000000) (y:Int) (hy:sg b n=y) :
  Calls Tryz.prog 16 #[va,.int .i64 k] w fun e w'=>∃ u,e = .returned u∧Zn w' u y∧Ext w w':=by
 obtain ⟨A,c,rfl,hu⟩:=ha
 obtain ⟨L,hL⟩:∃ L,xs.length=L:=⟨_,rfl⟩
 have ED:=Lib.hid (fun W h=>uh W (.slice A xs.length c) xs k h hk0 (by omega) n hn)
 rw [hL] at ED hu ⊢
 have hE0:=(((Ext.refl w).alloc (.cells #[.bool b,.slice A L c] 24)).alloc (.cells #[.bool false,.slice none 0 0] 24)).drew
 have hI0:=(Ib.new2 w (.cells #[.bool b,.slice A L c] 24) false (.slice none 0 0) 24).ext (Ext.refl _).drew
 have kZ:=(Ib.new w b (.slice A L c) 24).ext (((Ext.refl _).alloc (.cells #[.bool false,.slice none 0 0] 24)).drew)
 have hS0:(w.heap.size+1<((w.alloc (.cells #[.bool b,.slice A L c] 24)).alloc (.cells #[.bool false,.slice none 0 0] 24)).drew.heap.size∧((w.alloc (.cells #[.bool b,.slice A L c] 24)).alloc (.cells #[.bool false,.slice none 0 0] 24)).drew.cell? ⟨w.heap.size,0,none⟩=some (.bool b)∧((w.alloc (.cells #[.bool b,.slice A L c] 24)).alloc (.cells #[.bool false,.slice none 0 0] 24)).drew.cell? ⟨w.heap.size,1,none⟩=some (.slice A L c))∧Ext w ((w.alloc (.cells #[.bool b,.slice A L c] 24)).alloc (.cells #[.bool false,.slice none 0 0] 24)).drew:=⟨⟨by simp,kZ.2.1,kZ.2.2.1⟩,hE0⟩
 have hu0:=hu.below hE0
 have hM1:=Lib.hid (fun W v (h:Un W v n)=>dL W b v (limbs n) h (by omega) n (aI _) y hy)
 clear kZ hy hn hL hl hu hk0 hk1
 go_enter Tryz.func16,Tryz.ntmps16
 go_wp2
 go_region_held3 (fun X=>(w.heap.size+1<X.heap.size∧X.cell? ⟨w.heap.size,0,none⟩=some (.bool b)∧X.cell? ⟨w.heap.size,1,none⟩=some (.slice A L c))∧Ext w X)
  (first
   | assumption
   | with_reducible exact hS0
   | with_reducible exact vP (by assumption)
   | exact vO (by assumption) (by assumption))
  (first
   | (go_at_call 63;((with_reducible refine (ED.out _ hu0).mono ?_);rintro e w2 ⟨u,rfl,hu2,hE2⟩;obtain ⟨A2,c2,rfl,-⟩:=Un.sh hu2))
   | (go_at_call 62;((with_reducible refine (hM1.out _ _ hu2).mono ?_);rintro e w3 ⟨u,rfl,hz3,aO⟩;obtain ⟨b3,A3,L3,c3,rfl⟩:=hz3.sh;have nX:=(hI0.ext hE2).ext aO;obtain ⟨i0,i1,i2,i3,i4⟩:=id nX)))
 clear nX ED hM1
 go_wp2
 (try simp only [Exit.inBlock,Exit.then])
 refine bodyPost_ret (v:=.agg #[.bool b3,.slice A3 L3 c3]) (show (results _ _).run _ _=_ from ?_) rfl ⟨_,rfl,hz3.fZ ((hI0.ext hE2).ext aO) (dw _ _ _) _ _,((hE0.below hE2).below aO).fZ (by omega) _ _⟩
 simp only [results]
 go_simp
end Go.Proofs.YtdpmbgomcjnohaaGreatDoor
namespace Go.Proofs.YtdpmbgomcjnohaaGreatDoor
open Go.RowKit
set_option linter.all false
set_option maxRecDepth 100000
set_option maxHeartbeats 8000000
theorem bX (a:Int) (i:Nat):shl a (-(i:Int))=a/2^i:=by
 unfold shl
 rcases Nat.eq_zero_or_pos i with rfl | h
 · simp
 · rw [if_neg (by omega),Int.neg_neg];rfl
theorem oU (w:World) (va:Value) (b:Bool) (xs:List Nat) (ha:Ri w va b xs) (k:Nat) (z:Int) (hz:z=(k:Int)) (hk1:k≤1000000) (y:Int) (hy:sg b (gN xs k)=y) :
  Calls Tryz.prog 16 #[va,.int .i64 z] w fun e w'=>∃ u,e = .returned u∧Zn w' u y∧Ext w w':=by
 subst hz
 obtain ⟨A,c,e,hu⟩:=id ha
 exact vR w va b xs ha (k:Int) (by omega) (by omega) (gN xs k) rfl (Nat.le_trans (kW xs k hu.lim) hk1) y hy
end Go.Proofs.YtdpmbgomcjnohaaGreatDoor
namespace Go.Proofs.YtdpmbgomcjnohaaGreatDoor
open Go.RowKit 
set_option linter.all false
set_option maxRecDepth 100000
set_option maxHeartbeats 8000000
theorem zV {m e:Int} (h:Dy.Can m e):Dy.Can (-m) e:=by
 unfold Dy.Can at *;omega
theorem C9 {m e:Int} {x:Rat} (h:Dy.dv m e=x):Dy.dv (-m) e = -x:=by rw [Dy.Kb,h]
theorem rz (w:World) (va:Value) (x:Rat) (L:Nat) (lo hi:Int) (ha:Dn w va x L lo hi) :
  Calls Tryz.prog 24 #[va] w fun e w'=>∃ u,e = .returned u∧Dn w' u (-x) L lo hi∧Pl.Ex w w':=by
 obtain ⟨ma,ea,Aa,ca,rfl,ua,da⟩:=ha
 have CF:=da.lo
 have CG:=da.hi
 refine Pl.bL (n:=9) (vs:=[.agg #[.bool (decide (ma<0)),.slice Aa (limbs (Int.natAbs ma)).length ca,.int .i64 ea]]) Tryz.func24 rfl (by kernel_rfl) (by simp) ?_
 repeat refine Pl.ay ?_
 refine Pl.aB (by kernel_rfl) ?_
 refine Pl.dN (cs:=[.bool (decide (ma<0)),.slice Aa (limbs (Int.natAbs ma)).length ca,.int .i64 ea]) rfl rfl rfl rfl rfl rfl (fun Y hY=>trivial) ?_
 intro N1 w1 hE1 eP aC
 have ig:=Pl.Cb.lt aC
 have mH:=Pl.Ex.size hE1
 refine Pl.aU (z:=.agg #[.bool false,.slice none 0 0,.int .i64 0]) (by kernel_rfl) rfl rfl rfl rfl (fun Y hY=>trivial) ?_
 intro N2 w2 hE2 gD aD
 have iB:=Pl.Cb.lt aD
 have mY:=Pl.Ex.size hE2
 replace aD:Pl.Cb w2 N2 26 [.bool false,.slice none 0 0,.int .i64 0]:=aD
 refine Pl.af ?_
 repeat refine Pl.ay ?_
 refine Pl.fJ (S:=fun X=>Pl.Ex w1 X) [(true,0,0),(true,1,1),(true,3,3),(true,4,11),(false,2,27),(true,5,31),(false,6,63)] fo Pl.az (by kernel_rfl) (Pl.Ex.trans hE2 (Pl.Ex.drew _)) ?_
 have aO:=Pl.Ex.drew w2
 generalize w2.drew=w3 at *
 have mZ:=Pl.Ex.size aO
 intro eY
 refine Pl.bC (.pointer (some ⟨N1,0,none⟩)) eY rfl rfl rfl rfl (fun X=>by kernel_rfl) ?_
 refine Pl.bT (part:=[.bool (decide (ma<0)),.slice Aa (limbs (Int.natAbs ma)).length ca]) (fun X hX=>Pl.Cb.ex aC hX) rfl Tryz.underlying24 rfl (by kernel_rfl) eY rfl rfl rfl rfl rfl ?_
 refine Pl.bC (.pointer (some ⟨N1,2,none⟩)) eY rfl rfl rfl rfl (fun X=>by kernel_rfl) ?_
 refine Pl.iE (v:=.int .i64 ea) Tryz.underlying3 rfl (fun X hX=>Pl.Cb.at (j:=2) (Pl.Cb.ex aC hX) rfl) eY rfl rfl rfl rfl rfl ?_
 refine Pl.ah rfl rfl rfl rfl rfl (fun u X=>Pl.enters Tryz.func71 (by kernel_rfl) rfl u X) ?_
 refine Calls.mono (Qw _ _ ma (Zn.of (Un.below ua (Pl.Ex.trans hE1 (Pl.Ex.trans hE2 aO)))) _ rfl) ?_
 rintro e w4 ⟨v3,rfl,hv3,aR⟩
 obtain ⟨A4,c5,rfl,u6⟩:=hv3
 have l9:=Pl.Ex.size aR
 have dP:=Pl.Ex.trans eY aR
 refine ⟨_,rfl,dP,?_⟩
 refine Pl.bC (.agg #[.bool (decide ((-ma)<0)),.slice A4 (limbs (Int.natAbs (-ma))).length c5,.int .i64 ea]) dP rfl rfl rfl rfl (fun X=>by kernel_rfl) ?_
 refine Pl.bg (new:=[.bool (decide ((-ma)<0)),.slice A4 (limbs (Int.natAbs (-ma))).length c5,.int .i64 ea]) (Pl.Cb.ex aD (Pl.Ex.trans aO aR)) (by kernel_rfl) rfl (by simp [Value.oneCell']) rfl rfl rfl rfl rfl rfl (fun Y hY=>Pl.Ex.xs dP hY (by omega)) ?_
 intro w5 kF dG
 have aP:=Pl.Ex.xs (Pl.Ex.trans hE2 (Pl.Ex.trans aO aR)) kF (by omega)
 have jY:=Pl.Xs.size kF
 have hS5:=Pl.Ex.xs dP kF (by omega)
 refine Pl.af ?_
 have k7:=Un.xs u6 kF (Pl.Cb.ex aD (Pl.Ex.trans aO aR)) (by simp)
 repeat refine Pl.ay ?_
 exact Pl.cO rfl rfl dG Tryz.underlying26 rfl (by kernel_rfl) (⟨_,rfl,Dn.mk k7 (zV da.can) (C9 da.val) (Sz.neg da.sz) da.lo da.hi,(Pl.Ex.trans hE1 aP)⟩)
end Go.Proofs.YtdpmbgomcjnohaaGreatDoor
namespace Go.Proofs.YtdpmbgomcjnohaaGreatDoor
open Go.RowKit 
set_option linter.all false
set_option maxRecDepth 100000
set_option maxHeartbeats 8000000
theorem sK (w:World) (hg:Gt w) (va vb:Value) (x y:Rat) (L J:Nat) (lo hi:Int) (ha:Dn w va x L lo hi) (hb:Dn w vb y L lo hi) (hJ:hi-lo≤32*J) (hL:L+J+1≤20000) (hlo : -900000≤lo) (hhi:hi≤900000) (lo2 hi2:Int) (h1:lo2≤lo-1) (h2:hi+32*(L+J+1:Nat)≤hi2) (h3:lo2≤0) (h4:0≤hi2) :
  Calls Tryz.prog 28 #[va,vb] w fun e w'=>∃ u,e = .returned u∧Dn w' u (x-y) (L+J+1) lo2 hi2∧Pl.Ex w w':=by
 obtain ⟨ma,ea,Aa,ca,rfl,ua,da⟩:=ha
 have CF:=da.lo
 have CG:=da.hi
 obtain ⟨mb,eb,Ab,cb,rfl,ub,db⟩:=hb
 have Ob:=db.lo
 have Oc:=db.hi
 refine Pl.bL (n:=9) (vs:=[.agg #[.bool (decide (ma<0)),.slice Aa (limbs (Int.natAbs ma)).length ca,.int .i64 ea],.agg #[.bool (decide (mb<0)),.slice Ab (limbs (Int.natAbs mb)).length cb,.int .i64 eb]]) Tryz.func28 rfl (by kernel_rfl) (by simp) ?_
 repeat refine Pl.ay ?_
 refine Pl.aB (by kernel_rfl) ?_
 refine Pl.dN (cs:=[.bool (decide (ma<0)),.slice Aa (limbs (Int.natAbs ma)).length ca,.int .i64 ea]) rfl rfl rfl rfl rfl rfl (fun Y hY=>trivial) ?_
 intro N1 w1 hE1 eP aC
 have ig:=Pl.Cb.lt aC
 have mH:=Pl.Ex.size hE1
 refine Pl.dN (cs:=[.bool (decide (mb<0)),.slice Ab (limbs (Int.natAbs mb)).length cb,.int .i64 eb]) rfl rfl rfl rfl rfl rfl (fun Y hY=>trivial) ?_
 intro N2 w2 hE2 gD aD
 have iB:=Pl.Cb.lt aD
 have mY:=Pl.Ex.size hE2
 refine Pl.aU (z:=.agg #[.bool false,.slice none 0 0,.int .i64 0]) (by kernel_rfl) rfl rfl rfl rfl (fun Y hY=>trivial) ?_
 intro N3 w3 aO jP aL
 have iJ:=Pl.Cb.lt aL
 have mZ:=Pl.Ex.size aO
 replace aL:Pl.Cb w3 N3 26 [.bool false,.slice none 0 0,.int .i64 0]:=aL
 refine Pl.af ?_
 repeat refine Pl.ay ?_
 refine Pl.fJ (S:=fun X=>Pl.Ex w2 X) [(true,0,0),(true,1,1),(false,2,3),(false,3,7),(false,4,15)] fo Pl.az (by kernel_rfl) (Pl.Ex.trans aO (Pl.Ex.drew _)) ?_
 have aR:=Pl.Ex.drew w3
 generalize w3.drew=w4 at *
 have l9:=Pl.Ex.size aR
 intro dP
 refine Pl.bT (part:=[.bool (decide (ma<0)),.slice Aa (limbs (Int.natAbs ma)).length ca,.int .i64 ea]) (fun X hX=>Pl.Cb.ex (Pl.Cb.ex aC hE2) hX) rfl Tryz.underlying26 rfl (by kernel_rfl) dP rfl rfl rfl rfl rfl ?_
 refine Pl.bT (part:=[.bool (decide (mb<0)),.slice Ab (limbs (Int.natAbs mb)).length cb,.int .i64 eb]) (fun X hX=>Pl.Cb.ex aD hX) rfl Tryz.underlying26 rfl (by kernel_rfl) dP rfl rfl rfl rfl rfl ?_
 refine Pl.ah rfl rfl rfl rfl rfl (fun u X=>Pl.enters Tryz.func24 (by kernel_rfl) rfl u X) ?_
 refine Calls.mono (rz _ _ y _ _ _ (Dn.mk (Un.below ub (Pl.Ex.trans hE1 (Pl.Ex.trans hE2 (Pl.Ex.trans aO aR)))) db.can db.val db.sz db.lo db.hi)) ?_
 rintro e w5 ⟨vn,rfl,Qx,aP⟩
 obtain ⟨mn,en,An,cn,rfl,un,dn⟩:=Qx
 have jY:=Pl.Ex.size aP
 have hS5:=Pl.Ex.trans dP aP
 refine ⟨_,rfl,hS5,?_⟩
 refine Pl.ah rfl rfl rfl rfl rfl (fun u X=>Pl.enters Tryz.func26 (by kernel_rfl) rfl u X) ?_
 refine Calls.mono (lG _ (hg.ext (Pl.Ex.trans hE1 (Pl.Ex.trans hE2 (Pl.Ex.trans aO (Pl.Ex.trans aR aP))))) _ _ x (-y) L J lo hi (Dn.mk (Un.below ua (Pl.Ex.trans hE1 (Pl.Ex.trans hE2 (Pl.Ex.trans aO (Pl.Ex.trans aR aP))))) da.can da.val da.sz da.lo da.hi) (Dn.mk un dn.can dn.val dn.sz dn.lo dn.hi) hJ hL hlo hhi lo2 hi2 h1 h2 h3 h4) ?_
 rintro e w6 ⟨vs,rfl,hvs,aM⟩
 rw [← Rat.sub_eq_add_neg] at hvs
 obtain ⟨m1,e1,A1,c1,rfl,u1,d1⟩:=hvs
 have jr:=Pl.Ex.size aM
 have bS:=Pl.Ex.trans hS5 aM
 refine ⟨_,rfl,bS,?_⟩
 refine Pl.bg (new:=[.bool (decide (m1<0)),.slice A1 (limbs (Int.natAbs m1)).length c1,.int .i64 e1]) (Pl.Cb.ex aL (Pl.Ex.trans aR (Pl.Ex.trans aP aM))) (by kernel_rfl) rfl (by simp [Value.oneCell']) rfl rfl rfl rfl rfl rfl (fun Y hY=>Pl.Ex.xs bS hY (by omega)) ?_
 intro w7 gP dX
 have aH:=Pl.Ex.xs (Pl.Ex.trans aO (Pl.Ex.trans aR (Pl.Ex.trans aP aM))) gP (by omega)
 have iU:=Pl.Xs.size gP
 have bE:=Pl.Ex.xs bS gP (by omega)
 refine Pl.af ?_
 have k4:=Un.xs u1 gP (Pl.Cb.ex aL (Pl.Ex.trans aR (Pl.Ex.trans aP aM))) (by simp)
 repeat refine Pl.ay ?_
 exact Pl.cO rfl rfl dX Tryz.underlying26 rfl (by kernel_rfl) (⟨_,rfl,(Dn.mk k4 d1.can d1.val d1.sz d1.lo d1.hi),(Pl.Ex.trans hE1 (Pl.Ex.trans hE2 aH))⟩)
theorem lW (w:World) (hg:Gt w) (va vb:Value) (x y:Rat) (L M:Nat) (lo hi:Int) (ha:Dn w va x L lo hi) (hb:Dn w vb y M lo hi) (hL:L≤398) (hM:M≤398) (hlo : -400000≤lo) (hhi:hi≤400000) (lo2 hi2:Int) (h1:lo2≤lo+lo) (h2:hi+hi+32*(L+M:Nat)≤hi2) (h3:lo2≤0) (h4:0≤hi2) :
  Calls Tryz.prog 30 #[va,vb] w fun e w'=>∃ u,e = .returned u∧Dn w' u (x*y) (L+M) lo2 hi2∧Pl.Ex w w':=by
 obtain ⟨ma,ea,Aa,ca,rfl,ua,da⟩:=ha
 have CF:=da.lo
 have CG:=da.hi
 obtain ⟨mb,eb,Ab,cb,rfl,ub,db⟩:=hb
 have Ob:=db.lo
 have Oc:=db.hi
 have hsm:Sz (ma*mb) (L+M):=Sz.mul da.sz db.sz (Nat.le_refl _)
 refine Pl.bL (n:=16) (vs:=[.agg #[.bool (decide (ma<0)),.slice Aa (limbs (Int.natAbs ma)).length ca,.int .i64 ea],.agg #[.bool (decide (mb<0)),.slice Ab (limbs (Int.natAbs mb)).length cb,.int .i64 eb]]) Tryz.func30 rfl (by kernel_rfl) (by simp) ?_
 repeat refine Pl.ay ?_
 refine Pl.aB (by kernel_rfl) ?_
 refine Pl.dN (cs:=[.bool (decide (ma<0)),.slice Aa (limbs (Int.natAbs ma)).length ca,.int .i64 ea]) rfl rfl rfl rfl rfl rfl (fun Y hY=>trivial) ?_
 intro N1 w1 hE1 eP aC
 have ig:=Pl.Cb.lt aC
 have mH:=Pl.Ex.size hE1
 refine Pl.dN (cs:=[.bool (decide (mb<0)),.slice Ab (limbs (Int.natAbs mb)).length cb,.int .i64 eb]) rfl rfl rfl rfl rfl rfl (fun Y hY=>trivial) ?_
 intro N2 w2 hE2 gD aD
 have iB:=Pl.Cb.lt aD
 have mY:=Pl.Ex.size hE2
 refine Pl.aU (z:=.agg #[.bool false,.slice none 0 0,.int .i64 0]) (by kernel_rfl) rfl rfl rfl rfl (fun Y hY=>trivial) ?_
 intro N3 w3 aO jP aL
 have iJ:=Pl.Cb.lt aL
 have mZ:=Pl.Ex.size aO
 replace aL:Pl.Cb w3 N3 26 [.bool false,.slice none 0 0,.int .i64 0]:=aL
 refine Pl.af ?_
 repeat refine Pl.ay ?_
 refine Pl.fJ (S:=fun X=>Pl.Ex w2 X) [(true,0,0),(true,1,1),(true,2,3),(true,3,7),(true,5,15),(true,6,47),(true,7,111),(true,8,239),(true,9,495),(false,4,1007),(false,10,1023),(false,11,2047)] fo Pl.az (by kernel_rfl) (Pl.Ex.trans aO (Pl.Ex.drew _)) ?_
 have aR:=Pl.Ex.drew w3
 generalize w3.drew=w4 at *
 have l9:=Pl.Ex.size aR
 intro dP
 refine Pl.bC (.pointer (some ⟨N1,0,none⟩)) dP rfl rfl rfl rfl (fun X=>by kernel_rfl) ?_
 refine Pl.bT (part:=[.bool (decide (ma<0)),.slice Aa (limbs (Int.natAbs ma)).length ca]) (fun X hX=>Pl.Cb.ex (Pl.Cb.ex aC hE2) hX) rfl Tryz.underlying24 rfl (by kernel_rfl) dP rfl rfl rfl rfl rfl ?_
 refine Pl.bC (.pointer (some ⟨N2,0,none⟩)) dP rfl rfl rfl rfl (fun X=>by kernel_rfl) ?_
 refine Pl.bT (part:=[.bool (decide (mb<0)),.slice Ab (limbs (Int.natAbs mb)).length cb]) (fun X hX=>Pl.Cb.ex aD hX) rfl Tryz.underlying24 rfl (by kernel_rfl) dP rfl rfl rfl rfl rfl ?_
 refine Pl.bC (.pointer (some ⟨N1,2,none⟩)) dP rfl rfl rfl rfl (fun X=>by kernel_rfl) ?_
 refine Pl.iE (v:=.int .i64 ea) Tryz.underlying3 rfl (fun X hX=>Pl.Cb.at (j:=2) (Pl.Cb.ex (Pl.Cb.ex aC hE2) hX) rfl) dP rfl rfl rfl rfl rfl ?_
 refine Pl.bC (.pointer (some ⟨N2,2,none⟩)) dP rfl rfl rfl rfl (fun X=>by kernel_rfl) ?_
 refine Pl.iE (v:=.int .i64 eb) Tryz.underlying3 rfl (fun X hX=>Pl.Cb.at (j:=2) (Pl.Cb.ex aD hX) rfl) dP rfl rfl rfl rfl rfl ?_
 refine Pl.dO (v:=.int .i64 (ea+eb)) (fun X=>xG (by omega) X) dP rfl rfl rfl rfl rfl rfl ?_
 refine Pl.ah rfl rfl rfl rfl rfl (fun u X=>Pl.enters Tryz.func76 (by kernel_rfl) rfl u X) ?_
 refine Calls.mono (VQ _ _ _ ma mb (Zn.of (Un.below ua (Pl.Ex.trans hE1 (Pl.Ex.trans hE2 (Pl.Ex.trans aO aR))))) (Zn.of (Un.below ub (Pl.Ex.trans hE1 (Pl.Ex.trans hE2 (Pl.Ex.trans aO aR))))) (da.sz.le (by omega)) (db.sz.le (by omega)) _ rfl) ?_
 rintro e w5 ⟨vs,rfl,hvs,aP⟩
 obtain ⟨As,cs,rfl,us⟩:=hvs
 have jY:=Pl.Ex.size aP
 have hS5:=Pl.Ex.trans dP aP
 refine ⟨_,rfl,hS5,?_⟩
 refine Pl.ah rfl rfl rfl rfl rfl (fun u X=>Pl.enters Tryz.func18 (by kernel_rfl) rfl u X) ?_
 refine Calls.mono (lU _ (hg.ext (Pl.Ex.trans hE1 (Pl.Ex.trans hE2 (Pl.Ex.trans aO (Pl.Ex.trans aR aP))))) _ (ma*mb) (ea+eb) (Zn.of us) (L+M) hsm (by omega) (by omega) lo2 hi2 (by omega) (by omega) (by omega) (by omega)) ?_
 rintro e w6 ⟨vd,rfl,hvd,aM⟩
 rw [Dy.M4,da.val,db.val] at hvd
 obtain ⟨m1,e1,A1,c1,rfl,u1,d1⟩:=hvd
 have jr:=Pl.Ex.size aM
 have bS:=Pl.Ex.trans hS5 aM
 refine ⟨_,rfl,bS,?_⟩
 refine Pl.bg (new:=[.bool (decide (m1<0)),.slice A1 (limbs (Int.natAbs m1)).length c1,.int .i64 e1]) (Pl.Cb.ex aL (Pl.Ex.trans aR (Pl.Ex.trans aP aM))) (by kernel_rfl) rfl (by simp [Value.oneCell']) rfl rfl rfl rfl rfl rfl (fun Y hY=>Pl.Ex.xs bS hY (by omega)) ?_
 intro w7 gP dX
 have aH:=Pl.Ex.xs (Pl.Ex.trans aO (Pl.Ex.trans aR (Pl.Ex.trans aP aM))) gP (by omega)
 have iU:=Pl.Xs.size gP
 have bE:=Pl.Ex.xs bS gP (by omega)
 refine Pl.af ?_
 have k4:=Un.xs u1 gP (Pl.Cb.ex aL (Pl.Ex.trans aR (Pl.Ex.trans aP aM))) (by simp)
 repeat refine Pl.ay ?_
 exact Pl.cO rfl rfl dX Tryz.underlying26 rfl (by kernel_rfl) (⟨_,rfl,(Dn.mk k4 d1.can d1.val d1.sz d1.lo d1.hi),(Pl.Ex.trans hE1 (Pl.Ex.trans hE2 aH))⟩)
end Go.Proofs.YtdpmbgomcjnohaaGreatDoor
namespace Go.Proofs.YtdpmbgomcjnohaaGreatDoor
open Go.RowKit 
set_option linter.all false
set_option maxRecDepth 100000
set_option maxHeartbeats 8000000
theorem ru {n k o i:Nat} (h:n=2^k*(2*o+1)) (hi:i≤k):tC n (i:Int)=if i=k then 1 else 0:=by
 unfold tC
 rw [if_neg (by omega),Int.toNat_natCast,h]
 obtain ⟨d,rfl⟩:∃ d,k=i+d:=⟨k-i,by omega⟩
 rw [Nat.pow_add,Nat.mul_assoc,Nat.mul_div_cancel_left _ (Nat.two_pow_pos i)]
 cases d with
 | zero=>rw [if_pos (by omega),Nat.pow_zero];omega
 | succ d=>rw [if_neg (by omega),Nat.pow_succ,Nat.mul_assoc,Nat.mul_left_comm];omega
theorem zm {m:Int} {k o:Nat} (h:m.natAbs=2^k*(2*o+1)):sg (decide (m<0)) (m.natAbs/2^k)=shl m (-(k:Int)):=by
 rw [h,Nat.mul_div_cancel_left _ (Nat.two_pow_pos k),bX]
 unfold sg
 rcases Int.natAbs_eq m with h1 | h1
 · rw [if_neg (by rw [decide_eq_true_iff];omega),h1,h,Int.natCast_mul,Int.natCast_pow]
   exact (Int.mul_ediv_cancel_left _ (Int.pow_ne_zero (by decide))).symm
 · rw [if_pos (by rw [decide_eq_true_iff];have:=Nat.two_pow_pos k;have:0<2^k*(2*o+1):=Nat.mul_pos this (by omega);omega),h1,h,Int.natCast_mul,Int.natCast_pow,← Int.mul_neg]
   exact (Int.mul_ediv_cancel_left _ (Int.pow_ne_zero (by decide))).symm
theorem jW (w:World) (vm:Value) (m ex:Int) (hm:Zn w vm m) (L:Nat) (lm:Sz m L) (hL:L≤30000) (he : -1000000000≤ex∧ex≤1000000000) (lo hi:Int) (h1:lo≤ex) (h2:ex+32*L≤hi) (h3:lo≤0) (h4:0≤hi) :
  Calls Tryz.prog 19 #[vm,.int .i64 ex] w fun e w'=>∃ u,e = .returned u∧Dn w' u (Dy.dv m ex) L lo hi∧Pl.Ex w w':=by
 obtain ⟨Am,cm,rfl,um⟩:=hm
 refine Pl.bL (n:=29) (vs:=[.agg #[.bool (decide (m<0)),.slice Am (limbs (Int.natAbs m)).length cm],.int .i64 ex]) Tryz.func19 rfl (by kernel_rfl) (by simp) ?_
 repeat refine Pl.ay ?_
 refine Pl.aB (by kernel_rfl) ?_
 refine Pl.dN (cs:=[.bool (decide (m<0)),.slice Am (limbs (Int.natAbs m)).length cm]) rfl rfl rfl rfl rfl rfl (fun Y hY=>trivial) ?_
 intro N1 w1 hE1 eP aC
 have ig:=Pl.Cb.lt aC
 have mH:=Pl.Ex.size hE1
 refine Pl.aU (z:=.agg #[.bool false,.slice none 0 0,.int .i64 0]) (by kernel_rfl) rfl rfl rfl rfl (fun Y hY=>trivial) ?_
 intro N2 w2 hE2 gD aD
 have iB:=Pl.Cb.lt aD
 have mY:=Pl.Ex.size hE2
 replace aD:Pl.Cb w2 N2 26 [.bool false,.slice none 0 0,.int .i64 0]:=aD
 refine Pl.af ?_
 repeat refine Pl.ay ?_
 refine Pl.aB (by kernel_rfl) ?_
 refine Pl.bC (.pointer (some ⟨N1,1,none⟩)) trivial rfl rfl rfl rfl (fun X=>by kernel_rfl) ?_
 refine Pl.eT (v:=.slice Am (limbs (Int.natAbs m)).length cm) Tryz.underlying22 rfl (Pl.Cb.at (j:=1) (Pl.Cb.ex aC hE2) rfl) trivial rfl rfl rfl rfl rfl ?_
 refine Pl.yG Tryz.underlying22 trivial rfl rfl rfl rfl rfl ?_
 by_cases c3:((limbs (Int.natAbs m)).length)=0
 · refine Pl.dO (v:=.bool true) (fun X=>Pl.gM (Pl.e_t (by omega)) X) trivial rfl rfl rfl rfl rfl rfl ?_
   refine Pl.af ?_
   repeat refine Pl.ay ?_
   refine Pl.iO rfl ?_
   repeat refine Pl.ay ?_
   refine Pl.aB (by kernel_rfl) ?_
   refine Pl.bC (.agg #[.bool false,.slice none 0 0,.int .i64 0]) trivial rfl rfl rfl rfl (fun X=>by kernel_rfl) ?_
   refine Pl.bg (new:=[.bool false,.slice none 0 0,.int .i64 0]) aD (by kernel_rfl) rfl (by simp [Value.oneCell']) rfl rfl rfl rfl rfl rfl (fun Y hY=>trivial) ?_
   intro w3 Fa dG
   have aO:=Pl.Ex.xs hE2 Fa (by omega)
   have mZ:=Pl.Xs.size Fa
   refine Pl.af ?_
   repeat refine Pl.ay ?_
   exact Pl.cO rfl rfl dG Tryz.underlying26 rfl (by kernel_rfl) (⟨_,rfl,by rw [show m=0 from Int.natAbs_eq_zero.1 (oO.1 c3),Dy.vM];exact Dn.zero _ L (by omega) (by omega),(Pl.Ex.trans hE1 aO)⟩)
 · refine Pl.dO (v:=.bool false) (fun X=>Pl.gM (Pl.e_f (by omega)) X) trivial rfl rfl rfl rfl rfl rfl ?_
   refine Pl.af ?_
   repeat refine Pl.ay ?_
   refine Pl.gm rfl ?_
   repeat refine Pl.ay ?_
   refine Pl.iK ?_
   repeat refine Pl.ay ?_
   refine Pl.aB (by kernel_rfl) ?_
   have hm0:m.natAbs≠0:=fun h9=>c3 (oO.2 h9)
   obtain ⟨k,o,hko⟩:=xE m.natAbs hm0
   have Qy:k<32*L:=BS hko (by have:=zW lm;rw [Nat.pow_mul];exact this)
   refine Pl.aG trivial rfl ?_
   refine Pl.af ?_
   repeat refine Pl.ay ?_
   refine Pl.rF ?_
   repeat refine Pl.ay ?_
   refine Pl.jv [(1,.int .i64 ex),(2,.pointer (some ⟨N1,0,none⟩)),(4,.pointer (some ⟨N2,0,none⟩)),(5,.int .i64 0)] (Pl.aa rfl (Pl.aa rfl (Pl.aa rfl (Pl.aa rfl Pl.aA)))) ?_
   repeat refine Pl.ay ?_
   refine Pl.Da (fun kq l' w'=>∃ i,(k-i)=kq∧Pl.Ex w2 w'∧(i≤k)∧l'=[(1,.int .i64 ex),(2,.pointer (some ⟨N1,0,none⟩)),(4,.pointer (some ⟨N2,0,none⟩)),(5,.int .i64 ((i:Nat):Int))]) _ ⟨0,rfl,Pl.Ex.refl _,(Nat.zero_le _),rfl⟩ ?_
   rintro kq _ w3 ⟨i,hk3,aO,hik,rfl⟩
   have mZ:=Pl.Ex.size aO
   repeat refine Pl.ay ?_
   refine Pl.aB (by kernel_rfl) ?_
   refine Pl.bC (.pointer (some ⟨N1,1,none⟩)) trivial rfl rfl rfl rfl (fun X=>by kernel_rfl) ?_
   refine Pl.eT (v:=.slice Am (limbs (Int.natAbs m)).length cm) Tryz.underlying22 rfl (Pl.Cb.at (j:=1) (Pl.Cb.ex aC (Pl.Ex.trans hE2 aO)) rfl) trivial rfl rfl rfl rfl rfl ?_
   refine Pl.aG trivial rfl ?_
   refine Pl.ah rfl rfl rfl rfl rfl (fun u X=>Pl.enters Tryz.func56 (by kernel_rfl) rfl u X) ?_
   refine Calls.mono (BF _ _ (Int.natAbs m) (i:Int) (Un.below um (Pl.Ex.trans hE1 (Pl.Ex.trans hE2 aO))) (by omega) (by omega) _ rfl) ?_
   rintro e w4 ⟨rfl,aR⟩
   have l9:=Pl.Ex.size aR
   refine ⟨_,rfl,trivial,?_⟩
   by_cases c4:(tC (Int.natAbs m) (i:Int))=0
   · refine Pl.dO (v:=.bool true) (fun X=>Pl.gM (Pl.e_t (by omega)) X) trivial rfl rfl rfl rfl rfl rfl ?_
     refine Pl.af ?_
     repeat refine Pl.ay ?_
     refine Pl.iO rfl ?_
     repeat refine Pl.ay ?_
     refine Pl.iK ?_
     repeat refine Pl.ay ?_
     refine Pl.rF ?_
     repeat refine Pl.ay ?_
     refine Pl.aB (by kernel_rfl) ?_
     have hlt:i<k:=by have:=ru hko hik;have h9:=c4;rw [this] at h9;split at h9<;>omega
     refine Pl.aG trivial rfl ?_
     refine Pl.dO (v:=.int .i64 (((i+1):Nat):Int)) (fun X=>sM (a:=i) (b:=1) (by omega) X) trivial rfl rfl rfl rfl rfl rfl ?_
     refine Pl.aG trivial rfl ?_
     refine Pl.af ?_
     refine Pl.uu ?_
     repeat refine Pl.ay ?_
     refine Pl.zX (k':=(k-(i+1))) [(1,.int .i64 ex),(2,.pointer (some ⟨N1,0,none⟩)),(4,.pointer (some ⟨N2,0,none⟩)),(5,.int .i64 (((i+1):Nat):Int))] (Pl.aa rfl (Pl.aa rfl (Pl.aa rfl (Pl.aa rfl Pl.aA)))) (by omega) ⟨(i+1),rfl,(Pl.Ex.trans aO aR),(by omega),rfl⟩
   · refine Pl.dO (v:=.bool false) (fun X=>Pl.gM (Pl.e_f (by omega)) X) trivial rfl rfl rfl rfl rfl rfl ?_
     refine Pl.af ?_
     repeat refine Pl.ay ?_
     refine Pl.gm rfl ?_
     repeat refine Pl.ay ?_
     refine Pl.Db ?_
     repeat refine Pl.ay ?_
     refine Pl.fJ (S:=fun X=>Pl.Ex w1 X) [(true,0,0),(true,1,1),(true,2,3),(true,3,7),(true,4,15),(true,7,31),(true,8,159),(true,9,415),(false,5,927),(false,6,959),(true,10,1023),(false,11,2047)] fo Pl.az (by kernel_rfl) (Pl.Ex.trans (Pl.Ex.trans hE2 (Pl.Ex.trans aO aR)) (Pl.Ex.drew _)) ?_
     have aP:=Pl.Ex.drew w4
     generalize w4.drew=w5 at *
     have jY:=Pl.Ex.size aP
     intro hS5
     have heq:i=k:=by have:=ru hko hik;have h9:=c4;rw [this] at h9;split at h9<;>omega
     refine Pl.bC (.pointer (some ⟨N1,0,none⟩)) hS5 rfl rfl rfl rfl (fun X=>by kernel_rfl) ?_
     refine Pl.iE (v:=.bool (decide (m<0))) Tryz.underlying4 rfl (fun X hX=>Pl.Cb.at (j:=0) (Pl.Cb.ex aC hX) rfl) hS5 rfl rfl rfl rfl rfl ?_
     refine Pl.bC (.pointer (some ⟨N1,1,none⟩)) hS5 rfl rfl rfl rfl (fun X=>by kernel_rfl) ?_
     refine Pl.iE (v:=.slice Am (limbs (Int.natAbs m)).length cm) Tryz.underlying22 rfl (fun X hX=>Pl.Cb.at (j:=1) (Pl.Cb.ex aC hX) rfl) hS5 rfl rfl rfl rfl rfl ?_
     refine Pl.aG hS5 rfl ?_
     refine Pl.dO (v:=.int .i64 (ex+((i:Nat):Int))) (fun X=>xG (by omega) X) hS5 rfl rfl rfl rfl rfl rfl ?_
     refine Pl.ah rfl rfl rfl rfl rfl (fun u X=>Pl.enters Tryz.func66 (by kernel_rfl) rfl u X) ?_
     refine Calls.mono (zk _ _ (Int.natAbs m) i (Un.below um (Pl.Ex.trans hE1 (Pl.Ex.trans hE2 (Pl.Ex.trans aO (Pl.Ex.trans aR aP))))) (by omega) (Nat.le_trans lm (by omega)) _ rfl) ?_
     rintro e w6 ⟨vh,rfl,VJ,aM⟩
     have jr:=Pl.Ex.size aM
     have bS:=Pl.Ex.trans hS5 aM
     refine ⟨_,rfl,bS,?_⟩
     refine Pl.ah rfl rfl rfl rfl rfl (fun u X=>Pl.enters Tryz.func62 (by kernel_rfl) rfl u X) ?_
     refine Calls.mono (dL _ (decide (m<0)) _ _ VJ (Nat.le_trans (Sn.down lm (Nat.div_le_self _ _)) (by omega)) _ (aI _) (shl m (-(i:Int))) (by rw [heq];exact zm hko)) ?_
     rintro e w7 ⟨vz,rfl,VK,aH⟩
     obtain ⟨Az,cz,rfl,uz⟩:=VK
     have iU:=Pl.Ex.size aH
     have bE:=Pl.Ex.trans bS aH
     refine ⟨_,rfl,bE,?_⟩
     refine Pl.bC (.agg #[.bool (decide ((shl m (-(i:Int)))<0)),.slice Az (limbs (Int.natAbs (shl m (-(i:Int))))).length cz,.int .i64 (ex+((i:Nat):Int))]) bE rfl rfl rfl rfl (fun X=>by kernel_rfl) ?_
     refine Pl.bg (new:=[.bool (decide ((shl m (-(i:Int)))<0)),.slice Az (limbs (Int.natAbs (shl m (-(i:Int))))).length cz,.int .i64 (ex+((i:Nat):Int))]) (Pl.Cb.ex aD (Pl.Ex.trans aO (Pl.Ex.trans aR (Pl.Ex.trans aP (Pl.Ex.trans aM aH))))) (by kernel_rfl) rfl (by simp [Value.oneCell']) rfl rfl rfl rfl rfl rfl (fun Y hY=>Pl.Ex.xs bE hY (by omega)) ?_
     intro w8 eX dG
     have bu:=Pl.Ex.xs (Pl.Ex.trans hE2 (Pl.Ex.trans aO (Pl.Ex.trans aR (Pl.Ex.trans aP (Pl.Ex.trans aM aH))))) eX (by omega)
     have mh:=Pl.Xs.size eX
     have bD:=Pl.Ex.xs bE eX (by omega)
     refine Pl.af ?_
     have k5:=Un.xs uz eX (Pl.Cb.ex aD (Pl.Ex.trans aO (Pl.Ex.trans aR (Pl.Ex.trans aP (Pl.Ex.trans aM aH))))) (by simp)
     repeat refine Pl.ay ?_
     exact Pl.cO rfl rfl dG Tryz.underlying26 rfl (by kernel_rfl) (⟨_,rfl,Dn.mk k5 (tO (heq ▸ hko)).1 (tO (heq ▸ hko)).2 (zY lm (by omega)) (by omega) (by omega),(Pl.Ex.trans hE1 bu)⟩)
end Go.Proofs.YtdpmbgomcjnohaaGreatDoor
namespace Go.Proofs.YtdpmbgomcjnohaaGreatDoor
open Go.RowKit 
set_option linter.all false
set_option maxRecDepth 100000
set_option maxHeartbeats 8000000
theorem qc {w:World} {v:Value} {xs:List Nat} {b:Bool} (h:U w v xs) (k:Nat):Sz (sg b (gN xs k)) k:=by
 show (limbs (sg b (gN xs k)).natAbs).length≤k
 rw [yt];exact kW xs k h.lim
def jh (z:Int):Nat:=(BitVec.ofInt 64 z&&&BitVec.ofInt 64 65535).toNat
theorem pI (z:Int):jh z≤65535:=by unfold jh;rw [BitVec.toNat_and];exact Nat.and_le_right
theorem uw (z:Int) (T:TypeId) (x y:Operand) (X:World):Pl.Bn Tryz.prog .and T x y (.int .i64 z) (.int .i64 65535) X = .ok (.int .i64 ((jh z:Nat):Int)) X:=by
 have h:=pI z
 have e:IntKind.i64.wrap ((jh z:Nat):Int)=((jh z:Nat):Int):=Pl.Jg (by omega) (by omega)
 show (do eqGuard .and T x y (.int .i64 z) (.int .i64 65535);binOp .and T (.int .i64 z) (.int .i64 65535):Sem Value).run Tryz.prog X=_
 have h2:(Op.intBits .and .i64 z 65535).run Tryz.prog X = .ok (.int .i64 (IntKind.i64.wrap ((jh z:Nat):Int))) X:=rfl
 rw [e] at h2
 exact h2
def tQ (b:Bool) (xs:List Nat) (ee:Int) (k:Nat):Rat:=Dy.dv (sg b (gN xs k)) (((jh ee%401:Nat):Int)-200)
theorem qi (w:World) (A:Option Addr) (c:Nat) (z ee:Int) (u:Un w (.slice A (limbs z.natAbs).length c) z.natAbs) (lz:Sz z 65536) :
  Calls Tryz.prog 14 #[.agg #[.bool (decide (z<0)),.slice A (limbs z.natAbs).length c,.int .i64 ee]] w fun e w'=>e = .returned (.bool (decide ((z=0∧ee=0∨z%2=1) ∧ -100000≤ee∧ee≤100000)))∧Pl.Ex w w':=by
 refine Pl.bL (n:=32) (vs:=[.agg #[.bool (decide (z<0)),.slice A (limbs (Int.natAbs z)).length c,.int .i64 ee]]) Tryz.func14 rfl (by kernel_rfl) (by simp) ?_
 repeat refine Pl.ay ?_
 refine Pl.aB (by kernel_rfl) ?_
 refine Pl.dN (cs:=[.bool (decide (z<0)),.slice A (limbs (Int.natAbs z)).length c,.int .i64 ee]) rfl rfl rfl rfl rfl rfl (fun Y hY=>trivial) ?_
 intro N1 w1 hE1 eP aC
 have ig:=Pl.Cb.lt aC
 have mH:=Pl.Ex.size hE1
 refine Pl.aG trivial rfl ?_
 refine Pl.af ?_
 repeat refine Pl.ay ?_
 refine Pl.aB (by kernel_rfl) ?_
 refine Pl.bC (.pointer (some ⟨N1,0,none⟩)) trivial rfl rfl rfl rfl (fun X=>by kernel_rfl) ?_
 refine Pl.dJ (part:=[.bool (decide (z<0)),.slice A (limbs (Int.natAbs z)).length c]) aC rfl Tryz.underlying24 rfl (by kernel_rfl) trivial rfl rfl rfl rfl rfl ?_
 refine Pl.ah rfl rfl rfl rfl rfl (fun u X=>Pl.enters Tryz.func61 (by kernel_rfl) rfl u X) ?_
 refine Calls.mono (zP _ _ _ _ (Zn.ri (Zn.of (Un.below u hE1))) true (C8 (Sz.le lz (by omega)))) ?_
 rintro e w2 ⟨rfl,hE2⟩
 have mY:=Pl.Ex.size hE2
 refine ⟨_,rfl,trivial,?_⟩
 refine Pl.mK (v:=.bool false) trivial rfl rfl rfl rfl rfl (fun X=>rfl) ?_
 refine Pl.af ?_
 repeat refine Pl.ay ?_
 refine Pl.gm rfl ?_
 repeat refine Pl.ay ?_
 refine Pl.iK ?_
 repeat refine Pl.ay ?_
 refine Pl.aB (by kernel_rfl) ?_
 refine Pl.bC (.pointer (some ⟨N1,0,none⟩)) trivial rfl rfl rfl rfl (fun X=>by kernel_rfl) ?_
 refine Pl.bC (.pointer (some ⟨N1,1,none⟩)) trivial rfl rfl rfl rfl (fun X=>by kernel_rfl) ?_
 refine Pl.eT (v:=.slice A (limbs (Int.natAbs z)).length c) Tryz.underlying22 rfl (Pl.Cb.at (j:=1) (Pl.Cb.ex aC hE2) rfl) trivial rfl rfl rfl rfl rfl ?_
 refine Pl.yG Tryz.underlying22 trivial rfl rfl rfl rfl rfl ?_
 by_cases c2:((limbs (Int.natAbs z)).length)=0
 · refine Pl.dO (v:=.bool true) (fun X=>Pl.gM (Pl.e_t (by omega)) X) trivial rfl rfl rfl rfl rfl rfl ?_
   refine Pl.af ?_
   repeat refine Pl.ay ?_
   refine Pl.iO rfl ?_
   repeat refine Pl.ay ?_
   refine Pl.aB (by kernel_rfl) ?_
   refine Pl.bC (.pointer (some ⟨N1,2,none⟩)) trivial rfl rfl rfl rfl (fun X=>by kernel_rfl) ?_
   refine Pl.eT (v:=.int .i64 ee) Tryz.underlying3 rfl (Pl.Cb.at (j:=2) (Pl.Cb.ex aC hE2) rfl) trivial rfl rfl rfl rfl rfl ?_
   by_cases c3:ee=0
   · refine Pl.dO (v:=.bool true) (fun X=>nN c3 X) trivial rfl rfl rfl rfl rfl rfl ?_
     refine Pl.aG trivial rfl ?_
     refine Pl.af ?_
     repeat refine Pl.ay ?_
     exact Pl.dU rfl rfl  (⟨by rw [decide_eq_true (show (z=0∧ee=0∨z%2=1) ∧ -100000≤ee∧ee≤100000 by have hl1:=@oO z.natAbs;omega)],(Pl.Ex.trans hE1 hE2)⟩)
   · refine Pl.dO (v:=.bool false) (fun X=>vE c3 X) trivial rfl rfl rfl rfl rfl rfl ?_
     refine Pl.aG trivial rfl ?_
     refine Pl.af ?_
     repeat refine Pl.ay ?_
     exact Pl.dU rfl rfl  (⟨by rw [decide_eq_false (show ¬ ((z=0∧ee=0∨z%2=1) ∧ -100000≤ee∧ee≤100000) by have hl1:=@oO z.natAbs;omega)],(Pl.Ex.trans hE1 hE2)⟩)
 · refine Pl.dO (v:=.bool false) (fun X=>Pl.gM (Pl.e_f (by omega)) X) trivial rfl rfl rfl rfl rfl rfl ?_
   refine Pl.af ?_
   repeat refine Pl.ay ?_
   refine Pl.gm rfl ?_
   repeat refine Pl.ay ?_
   refine Pl.iK ?_
   repeat refine Pl.ay ?_
   refine Pl.aB (by kernel_rfl) ?_
   refine Pl.bC (.pointer (some ⟨N1,0,none⟩)) trivial rfl rfl rfl rfl (fun X=>by kernel_rfl) ?_
   refine Pl.bC (.pointer (some ⟨N1,1,none⟩)) trivial rfl rfl rfl rfl (fun X=>by kernel_rfl) ?_
   refine Pl.eT (v:=.slice A (limbs (Int.natAbs z)).length c) Tryz.underlying22 rfl (Pl.Cb.at (j:=1) (Pl.Cb.ex aC hE2) rfl) trivial rfl rfl rfl rfl rfl ?_
   have hl0:=@oO z.natAbs
   have hq0:z.natAbs≠0:=by omega
   obtain ⟨ad,hA1,hcell⟩:=J2 u (i:=0) (by omega)
   subst hA1
   refine Pl.J3 (s:=1) (j:=0) Tryz.underlying22 (by kernel_rfl) rfl (by omega) trivial rfl rfl rfl rfl rfl rfl ?_
   refine Pl.eT (v:=.int .u32 (((z.natAbs%4294967296):Nat):Int)) Tryz.underlying67 rfl (AY (Un.below u (Pl.Ex.trans hE1 hE2)) hq0) trivial rfl rfl rfl rfl rfl ?_
   refine Pl.dO (v:=.int .u32 ((((z.natAbs%4294967296)%2):Nat):Int)) (fun X=>vQ (a:=(z.natAbs%4294967296)) (b:=2) (by omega) (by omega) X) trivial rfl rfl rfl rfl rfl rfl ?_
   by_cases c3:((z.natAbs%4294967296)%2)=1
   · refine Pl.dO (v:=.bool true) (fun X=>Pl.gM (Pl.e_t (by omega)) X) trivial rfl rfl rfl rfl rfl rfl ?_
     refine Pl.aG trivial rfl ?_
     refine Pl.bC (.pointer (some ⟨N1,2,none⟩)) trivial rfl rfl rfl rfl (fun X=>by kernel_rfl) ?_
     refine Pl.eT (v:=.int .i64 ee) Tryz.underlying3 rfl (Pl.Cb.at (j:=2) (Pl.Cb.ex aC hE2) rfl) trivial rfl rfl rfl rfl rfl ?_
     by_cases c4:ee≥(-100000)
     · refine Pl.dO (v:=.bool true) (fun X=>sU c4 X) trivial rfl rfl rfl rfl rfl rfl ?_
       refine Pl.aG trivial rfl ?_
       refine Pl.bC (.pointer (some ⟨N1,2,none⟩)) trivial rfl rfl rfl rfl (fun X=>by kernel_rfl) ?_
       refine Pl.eT (v:=.int .i64 ee) Tryz.underlying3 rfl (Pl.Cb.at (j:=2) (Pl.Cb.ex aC hE2) rfl) trivial rfl rfl rfl rfl rfl ?_
       by_cases c5:ee≤100000
       · refine Pl.dO (v:=.bool true) (fun X=>zf c5 X) trivial rfl rfl rfl rfl rfl rfl ?_
         refine Pl.aG trivial rfl ?_
         refine Pl.af ?_
         repeat refine Pl.ay ?_
         exact Pl.dU rfl rfl  (⟨by rw [decide_eq_true (show (z=0∧ee=0∨z%2=1) ∧ -100000≤ee∧ee≤100000 by have hl1:=@oO z.natAbs;omega)],(Pl.Ex.trans hE1 hE2)⟩)
       · refine Pl.dO (v:=.bool false) (fun X=>zg c5 X) trivial rfl rfl rfl rfl rfl rfl ?_
         refine Pl.aG trivial rfl ?_
         refine Pl.af ?_
         repeat refine Pl.ay ?_
         exact Pl.dU rfl rfl  (⟨by rw [decide_eq_false (show ¬ ((z=0∧ee=0∨z%2=1) ∧ -100000≤ee∧ee≤100000) by have hl1:=@oO z.natAbs;omega)],(Pl.Ex.trans hE1 hE2)⟩)
     · refine Pl.dO (v:=.bool false) (fun X=>vF c4 X) trivial rfl rfl rfl rfl rfl rfl ?_
       refine Pl.aG trivial rfl ?_
       refine Pl.af ?_
       repeat refine Pl.ay ?_
       exact Pl.dU rfl rfl  (⟨by rw [decide_eq_false (show ¬ ((z=0∧ee=0∨z%2=1) ∧ -100000≤ee∧ee≤100000) by have hl1:=@oO z.natAbs;omega)],(Pl.Ex.trans hE1 hE2)⟩)
   · refine Pl.dO (v:=.bool false) (fun X=>Pl.gM (Pl.e_f (by omega)) X) trivial rfl rfl rfl rfl rfl rfl ?_
     refine Pl.aG trivial rfl ?_
     refine Pl.af ?_
     repeat refine Pl.ay ?_
     exact Pl.dU rfl rfl  (⟨by rw [decide_eq_false (show ¬ ((z=0∧ee=0∨z%2=1) ∧ -100000≤ee∧ee≤100000) by have hl1:=@oO z.natAbs;omega)],(Pl.Ex.trans hE1 hE2)⟩)
theorem dF (w:World) (b:Bool) (A:Option Addr) (c:Nat) (xs:List Nat) (ee:Int) (hu:U w (.slice A xs.length c) xs) (k:Nat) (hk:k≤100) :
  Calls Tryz.prog 38 #[.agg #[.bool b,.slice A xs.length c,.int .i64 ee],.int .i64 ((k:Nat):Int)] w fun e w'=>∃ u,e = .returned u∧Dn w' u (tQ b xs ee k) k (-200) (200+32*(k:Int))∧Pl.Ex w w':=by
 have hn9:=pI ee
 refine Pl.bL (n:=15) (vs:=[.agg #[.bool b,.slice A xs.length c,.int .i64 ee],.int .i64 ((k:Nat):Int)]) Tryz.func38 rfl (by kernel_rfl) (by simp) ?_
 repeat refine Pl.ay ?_
 refine Pl.aB (by kernel_rfl) ?_
 refine Pl.dN (cs:=[.bool b,.slice A xs.length c,.int .i64 ee]) rfl rfl rfl rfl rfl rfl (fun Y hY=>trivial) ?_
 intro N1 w1 hE1 eP aC
 have ig:=Pl.Cb.lt aC
 have mH:=Pl.Ex.size hE1
 refine Pl.aU (z:=.agg #[.bool false,.slice none 0 0,.int .i64 0]) (by kernel_rfl) rfl rfl rfl rfl (fun Y hY=>trivial) ?_
 intro N2 w2 hE2 gD aD
 have iB:=Pl.Cb.lt aD
 have mY:=Pl.Ex.size hE2
 replace aD:Pl.Cb w2 N2 26 [.bool false,.slice none 0 0,.int .i64 0]:=aD
 refine Pl.af ?_
 repeat refine Pl.ay ?_
 refine Pl.fJ (S:=fun X=>Pl.Ex w1 X) [(true,0,0),(true,1,1),(true,2,3),(true,4,7),(true,5,23),(true,6,55),(true,7,119),(true,8,247),(false,3,503),(false,9,511),(false,10,1023)] fo Pl.az (by kernel_rfl) (Pl.Ex.trans hE2 (Pl.Ex.drew _)) ?_
 have aO:=Pl.Ex.drew w2
 generalize w2.drew=w3 at *
 have mZ:=Pl.Ex.size aO
 intro eY
 refine Pl.bC (.pointer (some ⟨N1,0,none⟩)) eY rfl rfl rfl rfl (fun X=>by kernel_rfl) ?_
 refine Pl.bT (part:=[.bool b,.slice A xs.length c]) (fun X hX=>Pl.Cb.ex aC hX) rfl Tryz.underlying24 rfl (by kernel_rfl) eY rfl rfl rfl rfl rfl ?_
 refine Pl.aG eY rfl ?_
 refine Pl.bC (.pointer (some ⟨N1,2,none⟩)) eY rfl rfl rfl rfl (fun X=>by kernel_rfl) ?_
 refine Pl.iE (v:=.int .i64 ee) Tryz.underlying3 rfl (fun X hX=>Pl.Cb.at (j:=2) (Pl.Cb.ex aC hX) rfl) eY rfl rfl rfl rfl rfl ?_
 refine Pl.dO (v:=.int .i64 (((jh ee):Nat):Int)) (fun X=>uw ee _ _ _ X) eY rfl rfl rfl rfl rfl rfl ?_
 refine Pl.dO (v:=.int .i64 ((((jh ee)%401):Nat):Int)) (fun X=>jR (a:=(jh ee)) (b:=401) (by omega) (by omega) X) eY rfl rfl rfl rfl rfl rfl ?_
 refine Pl.dO (v:=.int .i64 (((jh ee%401:Nat):Int)-200)) (fun X=>rO (by omega) X) eY rfl rfl rfl rfl rfl rfl ?_
 refine Pl.ah rfl rfl rfl rfl rfl (fun u X=>Pl.enters Tryz.func16 (by kernel_rfl) rfl u X) ?_
 refine Calls.mono (oU _ _ _ _ (Ri.below (⟨A,c,rfl,hu⟩:Ri w _ b xs) (Pl.Ex.trans hE1 (Pl.Ex.trans hE2 aO))) k _ rfl (by omega) _ rfl) ?_
 rintro e w4 ⟨v3,rfl,hv3,aR⟩
 obtain ⟨A4,c5,rfl,u6⟩:=hv3
 have l9:=Pl.Ex.size aR
 have dP:=Pl.Ex.trans eY aR
 refine ⟨_,rfl,dP,?_⟩
 refine Pl.ah rfl rfl rfl rfl rfl (fun u X=>Pl.enters Tryz.func19 (by kernel_rfl) rfl u X) ?_
 refine Calls.mono (jW _ _ (sg b (gN xs k)) (((jh ee%401:Nat):Int)-200) (Zn.of u6) k (qc hu k) (by omega) (by omega) (-200) (200+32*(k:Int)) (by omega) (by omega) (by omega) (by omega)) ?_
 rintro e w5 ⟨v7,rfl,hv7,aP⟩
 obtain ⟨m8,e9,Hl,c11,rfl,zL,BU⟩:=hv7
 have ZR:=BU.lo
 have ZT:=BU.hi
 have jY:=Pl.Ex.size aP
 have hS5:=Pl.Ex.trans dP aP
 refine ⟨_,rfl,hS5,?_⟩
 refine Pl.bg (new:=[.bool (decide (m8<0)),.slice Hl (limbs (Int.natAbs m8)).length c11,.int .i64 e9]) (Pl.Cb.ex aD (Pl.Ex.trans aO (Pl.Ex.trans aR aP))) (by kernel_rfl) rfl (by simp [Value.oneCell']) rfl rfl rfl rfl rfl rfl (fun Y hY=>Pl.Ex.xs hS5 hY (by omega)) ?_
 intro w6 lS dG
 have aM:=Pl.Ex.xs (Pl.Ex.trans hE2 (Pl.Ex.trans aO (Pl.Ex.trans aR aP))) lS (by omega)
 have jr:=Pl.Xs.size lS
 have bS:=Pl.Ex.xs hS5 lS (by omega)
 refine Pl.af ?_
 have k14:=Un.xs zL lS (Pl.Cb.ex aD (Pl.Ex.trans aO (Pl.Ex.trans aR aP))) (by simp)
 repeat refine Pl.ay ?_
 exact Pl.cO rfl rfl dG Tryz.underlying26 rfl (by kernel_rfl) (⟨_,rfl,(Dn.mk k14 BU.can BU.val BU.sz BU.lo BU.hi),(Pl.Ex.trans hE1 aM)⟩)
end Go.Proofs.YtdpmbgomcjnohaaGreatDoor
namespace Go.Proofs.YtdpmbgomcjnohaaGreatDoor
open Go.RowKit 
set_option linter.all false
set_option maxRecDepth 100000
set_option maxHeartbeats 8000000
theorem LH (w:World) (hg:Gt w) (bx0:Bool) (Ax:Option Addr) (cx:Nat) (lu:List Nat) (oM:Int) (zM:U w (.slice Ax lu.length cx) lu) (qy:Bool) (Ay:Option Addr) (cy:Nat) (oP:List Nat) (qA:Int) (IB:U w (.slice Ay oP.length cy) oP) (uW:Bool) (Az:Option Addr) (cz:Nat) (uJ:List Nat) (uX:Int) (Y7:U w (.slice Az uJ.length cz) uJ) :
  Calls Tryz.prog 5 #[.agg #[.bool bx0,.slice Ax lu.length cx,.int .i64 oM],.agg #[.bool qy,.slice Ay oP.length cy,.int .i64 qA],.agg #[.bool uW,.slice Az uJ.length cz,.int .i64 uX]] w fun e w'=>e = .returned (.bool true)∧Pl.Ex w w':=by
 obtain ⟨x,CJ⟩:∃ z,tQ bx0 lu oM 8=z:=⟨_,rfl⟩
 obtain ⟨y,Ho⟩:∃ z,tQ qy oP qA 8=z:=⟨_,rfl⟩
 obtain ⟨z,Y8⟩:∃ z,tQ uW uJ uX 8=z:=⟨_,rfl⟩
 refine Pl.bL (n:=109) (vs:=[.agg #[.bool bx0,.slice Ax lu.length cx,.int .i64 oM],.agg #[.bool qy,.slice Ay oP.length cy,.int .i64 qA],.agg #[.bool uW,.slice Az uJ.length cz,.int .i64 uX]]) Tryz.func5 rfl (by kernel_rfl) (by simp) ?_
 repeat refine Pl.ay ?_
 refine Pl.aB (by kernel_rfl) ?_
 refine Pl.dN (cs:=[.bool bx0,.slice Ax lu.length cx,.int .i64 oM]) rfl rfl rfl rfl rfl rfl (fun Y hY=>trivial) ?_
 intro N1 w1 hE1 eP aC
 have ig:=Pl.Cb.lt aC
 have mH:=Pl.Ex.size hE1
 refine Pl.dN (cs:=[.bool qy,.slice Ay oP.length cy,.int .i64 qA]) rfl rfl rfl rfl rfl rfl (fun Y hY=>trivial) ?_
 intro N2 w2 hE2 gD aD
 have iB:=Pl.Cb.lt aD
 have mY:=Pl.Ex.size hE2
 refine Pl.dN (cs:=[.bool uW,.slice Az uJ.length cz,.int .i64 uX]) rfl rfl rfl rfl rfl rfl (fun Y hY=>trivial) ?_
 intro N3 w3 aO jP aL
 have iJ:=Pl.Cb.lt aL
 have mZ:=Pl.Ex.size aO
 refine Pl.aG trivial rfl ?_
 refine Pl.af ?_
 repeat refine Pl.ay ?_
 refine Pl.aB (by kernel_rfl) ?_
 refine Pl.ah rfl rfl rfl rfl rfl (fun u X=>Pl.enters Tryz.func12 (by kernel_rfl) rfl u X) ?_
 refine Calls.mono (sH _ (hg.ext (Pl.Ex.trans hE1 (Pl.Ex.trans hE2 aO)))) ?_
 rintro e w4 ⟨rfl,aR⟩
 have l9:=Pl.Ex.size aR
 refine ⟨_,rfl,trivial,?_⟩
 refine Pl.aG trivial rfl ?_
 refine Pl.af ?_
 repeat refine Pl.ay ?_
 refine Pl.nG (S:=fun X=>Pl.Ex w4 X) fo (Pl.Ex.trans (Pl.Ex.refl _) (Pl.Ex.drew _)) ?_
 have aP:=Pl.Ex.drew w4
 generalize w4.drew=w5 at *
 have jY:=Pl.Ex.size aP
 intro hS5
 refine Pl.fP 0 4095 (fun l' w'=>∃ (aN:Int) (bJ:Int) (aX:Option Addr) (aY:Nat) (aT:Int) (dA:Int) (dB:Option Addr) (dD:Nat) (gW:Int) (kS:Int) (kT:Option Addr) (kU:Nat) (aK:Nat) (bQ:Nat) (kC:Nat),Pl.Ex w5 w'∧(Un w' (.slice aX (limbs (Int.natAbs aN)).length aY) (Int.natAbs aN))∧(Dd aN bJ x 8 (-200) 456)∧(Un w' (.slice dB (limbs (Int.natAbs aT)).length dD) (Int.natAbs aT))∧(Dd aT dA y 8 (-200) 456)∧(Un w' (.slice kT (limbs (Int.natAbs gW)).length kU) (Int.natAbs gW))∧(Dd gW kS z 8 (-200) 456)∧(Pl.Cb w' aK 26 [.bool (decide (aN<0)),.slice aX (limbs (Int.natAbs aN)).length aY,.int .i64 bJ])∧(w5.heap.size≤aK)∧(Pl.Cb w' bQ 26 [.bool (decide (aT<0)),.slice dB (limbs (Int.natAbs aT)).length dD,.int .i64 dA])∧(w5.heap.size≤bQ)∧(Pl.Cb w' kC 26 [.bool (decide (gW<0)),.slice kT (limbs (Int.natAbs gW)).length kU,.int .i64 kS])∧(w5.heap.size≤kC)∧(aK≠bQ)∧(aK≠kC)∧(bQ≠kC)∧l'=[(6,.bool false),(7,.bool true),(8,.pointer (some ⟨aK,0,none⟩)),(9,.pointer (some ⟨bQ,0,none⟩)),(10,.pointer (some ⟨kC,0,none⟩))]) ?_ fun Ea=>?_
 · rintro _ w6 ⟨aN,bJ,aX,aY,aT,dA,dB,dD,gW,kS,kT,kU,aK,bQ,kC,aM,dS,bz,gG,bH,uY,jH,aV,jk,dV,nY,uF,QG,nZ,QH,QI,rfl⟩
   have jr:=Pl.Ex.size aM
   have bS:=Pl.Ex.trans hS5 aM
   have mO:=bz.lo
   have mP:=bz.hi
   have pE:=bH.lo
   have pF:=bH.hi
   have Hr:=jH.lo
   have Ht:=jH.hi
   have gU:=Pl.Cb.lt aV
   have lZ:=Pl.Cb.lt dV
   have M7:=Pl.Cb.lt uF
   refine Pl.tK (by kernel_rfl) ?_
   repeat refine Pl.ay ?_
   refine Pl.nG (S:=fun X=>Pl.Ex w6 X) fo (Pl.Ex.trans (Pl.Ex.refl _) (Pl.Ex.drew _)) ?_
   have aH:=Pl.Ex.drew w6
   generalize w6.drew=w7 at *
   have iU:=Pl.Ex.size aH
   intro bE
   refine Pl.fP 0 1023 (fun l' w'=>∃ (iW:Int) (mg:Int) (iq:Option Addr) (iw:Nat) (oq:Int) (vJ:Int) (nO:Option Addr) (nP:Nat) (fH:Nat) (mU:Nat),Pl.Ex w7 w'∧(Un w' (.slice iq (limbs (Int.natAbs iW)).length iw) (Int.natAbs iW))∧(Dd iW mg (x+y) 30 (-201) 1416)∧(Un w' (.slice nO (limbs (Int.natAbs oq)).length nP) (Int.natAbs oq))∧(Dd oq vJ (x*y) 16 (-400) 1424)∧(Pl.Cb w' fH 26 [.bool (decide (iW<0)),.slice iq (limbs (Int.natAbs iW)).length iw,.int .i64 mg])∧(w7.heap.size≤fH)∧(Pl.Cb w' mU 26 [.bool (decide (oq<0)),.slice nO (limbs (Int.natAbs oq)).length nP,.int .i64 vJ])∧(w7.heap.size≤mU)∧(fH≠mU)∧l'=[(6,.bool false),(7,.bool true),(8,.pointer (some ⟨aK,0,none⟩)),(9,.pointer (some ⟨bQ,0,none⟩)),(10,.pointer (some ⟨kC,0,none⟩)),(11,.pointer (some ⟨fH,0,none⟩)),(12,.pointer (some ⟨mU,0,none⟩))]) ?_ fun xY=>?_
   · rintro _ w8 ⟨iW,mg,iq,iw,oq,vJ,nO,nP,fH,mU,bu,nW,lQ,yg,tT,fO,xL,qH,Kl,Km,rfl⟩
     have mh:=Pl.Ex.size bu
     have bD:=Pl.Ex.trans bE bu
     have Kq:=lQ.lo
     have Kr:=lQ.hi
     have VT:=tT.lo
     have VU:=tT.hi
     have uO:=Pl.Cb.lt fO
     have FY:=Pl.Cb.lt qH
     refine Pl.tK (by kernel_rfl) ?_
     repeat refine Pl.ay ?_
     refine Pl.aB (by kernel_rfl) ?_
     refine Pl.dJ (part:=[.bool (decide (iW<0)),.slice iq (limbs (Int.natAbs iW)).length iw,.int .i64 mg]) fO rfl Tryz.underlying26 rfl (by kernel_rfl) trivial rfl rfl rfl rfl rfl ?_
     refine Pl.ah rfl rfl rfl rfl rfl (fun u X=>Pl.enters Tryz.func13 (by kernel_rfl) rfl u X) ?_
     refine Calls.mono (rq _ _ _ iW mg nW (Sz.le lQ.sz (by decide))) ?_
     rintro e w9 ⟨rfl,dh⟩
     rw [decide_eq_true ⟨lQ.can,by omega,by omega⟩]
     have pG:=Pl.Ex.size dh
     refine ⟨_,rfl,trivial,?_⟩
     refine Pl.mK (v:=.bool false) trivial rfl rfl rfl rfl rfl (fun X=>rfl) ?_
     refine Pl.aG trivial rfl ?_
     refine Pl.dJ (part:=[.bool (decide (oq<0)),.slice nO (limbs (Int.natAbs oq)).length nP,.int .i64 vJ]) (Pl.Cb.ex qH dh) rfl Tryz.underlying26 rfl (by kernel_rfl) trivial rfl rfl rfl rfl rfl ?_
     refine Pl.ah rfl rfl rfl rfl rfl (fun u X=>Pl.enters Tryz.func13 (by kernel_rfl) rfl u X) ?_
     refine Calls.mono (rq _ _ _ oq vJ (Un.below yg dh) (Sz.le tT.sz (by decide))) ?_
     rintro e qD ⟨rfl,bf⟩
     rw [decide_eq_true ⟨tT.can,by omega,by omega⟩]
     have mD:=Pl.Ex.size bf
     refine ⟨_,rfl,trivial,?_⟩
     refine Pl.mK (v:=.bool false) trivial rfl rfl rfl rfl rfl (fun X=>rfl) ?_
     refine Pl.aG trivial rfl ?_
     refine Pl.dJ (part:=[.bool (decide (iW<0)),.slice iq (limbs (Int.natAbs iW)).length iw,.int .i64 mg]) (Pl.Cb.ex fO (Pl.Ex.trans dh bf)) rfl Tryz.underlying26 rfl (by kernel_rfl) trivial rfl rfl rfl rfl rfl ?_
     refine Pl.ah rfl rfl rfl rfl rfl (fun u X=>Pl.enters Tryz.func14 (by kernel_rfl) rfl u X) ?_
     refine Calls.mono (qi _ _ _ iW mg (Un.below nW (Pl.Ex.trans dh bf)) (Sz.le lQ.sz (by decide))) ?_
     rintro e uV ⟨rfl,bI⟩
     rw [decide_eq_true ⟨lQ.can,by omega,by omega⟩]
     have qx:=Pl.Ex.size bI
     refine ⟨_,rfl,trivial,?_⟩
     refine Pl.mK (v:=.bool false) trivial rfl rfl rfl rfl rfl (fun X=>rfl) ?_
     refine Pl.aG trivial rfl ?_
     refine Pl.dJ (part:=[.bool (decide (oq<0)),.slice nO (limbs (Int.natAbs oq)).length nP,.int .i64 vJ]) (Pl.Cb.ex qH (Pl.Ex.trans dh (Pl.Ex.trans bf bI))) rfl Tryz.underlying26 rfl (by kernel_rfl) trivial rfl rfl rfl rfl rfl ?_
     refine Pl.ah rfl rfl rfl rfl rfl (fun u X=>Pl.enters Tryz.func14 (by kernel_rfl) rfl u X) ?_
     refine Calls.mono (qi _ _ _ oq vJ (Un.below yg (Pl.Ex.trans dh (Pl.Ex.trans bf bI))) (Sz.le tT.sz (by decide))) ?_
     rintro e yu ⟨rfl,bY⟩
     rw [decide_eq_true ⟨tT.can,by omega,by omega⟩]
     have qQ:=Pl.Ex.size bY
     refine ⟨_,rfl,trivial,?_⟩
     refine Pl.mK (v:=.bool false) trivial rfl rfl rfl rfl rfl (fun X=>rfl) ?_
     refine Pl.aG trivial rfl ?_
     refine Pl.af ?_
     repeat refine Pl.ay ?_
     refine Pl.gm rfl ?_
     repeat refine Pl.ay ?_
     refine Pl.iK ?_
     repeat refine Pl.ay ?_
     refine Pl.fJ (S:=fun X=>Pl.Ex yu X) [(true,0,0),(true,1,1),(true,2,3),(false,3,7),(false,4,15),(true,5,31),(true,6,63),(true,7,127),(true,8,255),(false,9,511),(false,10,1023),(true,11,2047),(true,12,4095),(true,13,8191),(true,14,16383),(true,16,32767),(true,17,98303),(true,18,229375),(false,15,491519),(false,19,524287),(false,20,1048575),(false,21,2097151),(true,22,4194303),(true,23,8388607),(true,24,16777215),(true,25,33554431),(true,27,67108863),(true,28,201326591),(true,29,469762047),(false,26,1006632959),(false,30,1073741823),(false,31,2147483647),(false,32,4294967295),(true,33,8589934591),(true,34,17179869183),(true,35,34359738367),(true,36,68719476735),(true,38,137438953471),(true,39,412316860415),(true,41,962072674303),(true,42,3161095929855),(false,37,7559142440959),(false,40,7696581394431),(false,43,8796093022207),(false,44,17592186044415),(false,45,35184372088831),(true,46,70368744177663),(true,47,140737488355327),(true,48,281474976710655),(true,49,562949953421311),(true,51,1125899906842623),(false,50,3377699720527871),(false,52,4503599627370495),(true,53,9007199254740991),(true,54,18014398509481983),(true,55,36028797018963967),(true,56,72057594037927935),(true,59,144115188075855871),(false,57,720575940379279359),(false,58,864691128455135231),(false,60,1152921504606846975),(true,61,2305843009213693951),(true,62,4611686018427387903),(true,63,9223372036854775807),(true,64,18446744073709551615),(true,65,36893488147419103231)] fo Pl.az (by kernel_rfl) (Pl.Ex.trans (Pl.Ex.refl _) (Pl.Ex.drew _)) ?_
     have bM:=Pl.Ex.drew yu
     generalize yu.drew=yM at *
     have rE:=Pl.Ex.size bM
     intro lV
     refine Pl.bT (part:=[.bool (decide (iW<0)),.slice iq (limbs (Int.natAbs iW)).length iw,.int .i64 mg]) (fun X hX=>Pl.Cb.ex (Pl.Cb.ex fO (Pl.Ex.trans dh (Pl.Ex.trans bf (Pl.Ex.trans bI bY)))) hX) rfl Tryz.underlying26 rfl (by kernel_rfl) lV rfl rfl rfl rfl rfl ?_
     refine Pl.bT (part:=[.bool (decide (aT<0)),.slice dB (limbs (Int.natAbs aT)).length dD,.int .i64 dA]) (fun X hX=>Pl.Cb.ex (Pl.Cb.ex dV (Pl.Ex.trans aH (Pl.Ex.trans bu (Pl.Ex.trans dh (Pl.Ex.trans bf (Pl.Ex.trans bI bY)))))) hX) rfl Tryz.underlying26 rfl (by kernel_rfl) lV rfl rfl rfl rfl rfl ?_
     refine Pl.bT (part:=[.bool (decide (aN<0)),.slice aX (limbs (Int.natAbs aN)).length aY,.int .i64 bJ]) (fun X hX=>Pl.Cb.ex (Pl.Cb.ex aV (Pl.Ex.trans aH (Pl.Ex.trans bu (Pl.Ex.trans dh (Pl.Ex.trans bf (Pl.Ex.trans bI bY)))))) hX) rfl Tryz.underlying26 rfl (by kernel_rfl) lV rfl rfl rfl rfl rfl ?_
     refine Pl.ah rfl rfl rfl rfl rfl (fun u X=>Pl.enters Tryz.func26 (by kernel_rfl) rfl u X) ?_
     refine Calls.mono (lG _ (hg.ext (Pl.Ex.trans hE1 (Pl.Ex.trans hE2 (Pl.Ex.trans aO (Pl.Ex.trans aR (Pl.Ex.trans aP (Pl.Ex.trans aM (Pl.Ex.trans aH (Pl.Ex.trans bu (Pl.Ex.trans dh (Pl.Ex.trans bf (Pl.Ex.trans bI (Pl.Ex.trans bY bM))))))))))))) _ _ y x 8 21 (-200) 456 (Dn.le (Dn.mk (Un.below gG (Pl.Ex.trans aH (Pl.Ex.trans bu (Pl.Ex.trans dh (Pl.Ex.trans bf (Pl.Ex.trans bI (Pl.Ex.trans bY bM))))))) bH.can bH.val bH.sz bH.lo bH.hi) (by decide) (by decide) (by decide)) (Dn.le (Dn.mk (Un.below dS (Pl.Ex.trans aH (Pl.Ex.trans bu (Pl.Ex.trans dh (Pl.Ex.trans bf (Pl.Ex.trans bI (Pl.Ex.trans bY bM))))))) bz.can bz.val bz.sz bz.lo bz.hi) (by decide) (by decide) (by decide)) (by decide) (by decide) (by decide) (by decide) (-201) 1416 (by decide) (by decide) (by decide) (by decide)) ?_
     rintro e FV ⟨v4,rfl,hv4,ed⟩
     obtain ⟨m5,e6,A7,c8,rfl,u9,fC⟩:=hv4
     have sW:=fC.lo
     have sZ:=fC.hi
     have zK:=Pl.Ex.size ed
     have nU:=Pl.Ex.trans lV ed
     refine ⟨_,rfl,nU,?_⟩
     refine Pl.ah rfl rfl rfl rfl rfl (fun u X=>Pl.enters Tryz.func17 (by kernel_rfl) rfl u X) ?_
     refine Calls.mono (dR _ _ _ (x+y) (y+x) _ _ _ _ _ _ (Dn.mk (Un.below nW (Pl.Ex.trans dh (Pl.Ex.trans bf (Pl.Ex.trans bI (Pl.Ex.trans bY (Pl.Ex.trans bM ed)))))) lQ.can lQ.val lQ.sz lQ.lo lQ.hi) (Dn.mk u9 fC.can fC.val fC.sz fC.lo fC.hi) (by decide) (by decide)) ?_
     rintro e IA ⟨rfl,dK⟩
     rw [decide_eq_true (show (x+y)=(y+x) from (by grind))]
     have Cz:=Pl.Ex.size dK
     have uM:=Pl.Ex.trans nU dK
     refine ⟨_,rfl,uM,?_⟩
     refine Pl.aG uM rfl ?_
     refine Pl.bT (part:=[.bool (decide (oq<0)),.slice nO (limbs (Int.natAbs oq)).length nP,.int .i64 vJ]) (fun X hX=>Pl.Cb.ex (Pl.Cb.ex qH (Pl.Ex.trans dh (Pl.Ex.trans bf (Pl.Ex.trans bI bY)))) hX) rfl Tryz.underlying26 rfl (by kernel_rfl) uM rfl rfl rfl rfl rfl ?_
     refine Pl.bT (part:=[.bool (decide (aT<0)),.slice dB (limbs (Int.natAbs aT)).length dD,.int .i64 dA]) (fun X hX=>Pl.Cb.ex (Pl.Cb.ex dV (Pl.Ex.trans aH (Pl.Ex.trans bu (Pl.Ex.trans dh (Pl.Ex.trans bf (Pl.Ex.trans bI bY)))))) hX) rfl Tryz.underlying26 rfl (by kernel_rfl) uM rfl rfl rfl rfl rfl ?_
     refine Pl.bT (part:=[.bool (decide (aN<0)),.slice aX (limbs (Int.natAbs aN)).length aY,.int .i64 bJ]) (fun X hX=>Pl.Cb.ex (Pl.Cb.ex aV (Pl.Ex.trans aH (Pl.Ex.trans bu (Pl.Ex.trans dh (Pl.Ex.trans bf (Pl.Ex.trans bI bY)))))) hX) rfl Tryz.underlying26 rfl (by kernel_rfl) uM rfl rfl rfl rfl rfl ?_
     refine Pl.ah rfl rfl rfl rfl rfl (fun u X=>Pl.enters Tryz.func30 (by kernel_rfl) rfl u X) ?_
     refine Calls.mono (lW _ (hg.ext (Pl.Ex.trans hE1 (Pl.Ex.trans hE2 (Pl.Ex.trans aO (Pl.Ex.trans aR (Pl.Ex.trans aP (Pl.Ex.trans aM (Pl.Ex.trans aH (Pl.Ex.trans bu (Pl.Ex.trans dh (Pl.Ex.trans bf (Pl.Ex.trans bI (Pl.Ex.trans bY (Pl.Ex.trans bM (Pl.Ex.trans ed dK))))))))))))))) _ _ y x 8 8 (-200) 456 (Dn.le (Dn.mk (Un.below gG (Pl.Ex.trans aH (Pl.Ex.trans bu (Pl.Ex.trans dh (Pl.Ex.trans bf (Pl.Ex.trans bI (Pl.Ex.trans bY (Pl.Ex.trans bM (Pl.Ex.trans ed dK))))))))) bH.can bH.val bH.sz bH.lo bH.hi) (by decide) (by decide) (by decide):Dn _ _ _ 8 (-200) 456) (Dn.le (Dn.mk (Un.below dS (Pl.Ex.trans aH (Pl.Ex.trans bu (Pl.Ex.trans dh (Pl.Ex.trans bf (Pl.Ex.trans bI (Pl.Ex.trans bY (Pl.Ex.trans bM (Pl.Ex.trans ed dK))))))))) bz.can bz.val bz.sz bz.lo bz.hi) (by decide) (by decide) (by decide):Dn _ _ _ 8 (-200) 456) (by decide) (by decide) (by decide) (by decide) (-400) 1424 (by decide) (by decide) (by decide) (by decide)) ?_
     rintro e w16 ⟨v11,rfl,kL,dW⟩
     obtain ⟨m12,e13,qK,c15,rfl,u16,kG⟩:=kL
     have LF:=kG.lo
     have LG:=kG.hi
     have LA:=Pl.Ex.size dW
     have xC:=Pl.Ex.trans uM dW
     refine ⟨_,rfl,xC,?_⟩
     refine Pl.ah rfl rfl rfl rfl rfl (fun u X=>Pl.enters Tryz.func17 (by kernel_rfl) rfl u X) ?_
     refine Calls.mono (dR _ _ _ (x*y) (y*x) _ _ _ _ _ _ (Dn.mk (Un.below yg (Pl.Ex.trans dh (Pl.Ex.trans bf (Pl.Ex.trans bI (Pl.Ex.trans bY (Pl.Ex.trans bM (Pl.Ex.trans ed (Pl.Ex.trans dK dW)))))))) tT.can tT.val tT.sz tT.lo tT.hi) (Dn.mk u16 kG.can kG.val kG.sz kG.lo kG.hi) (by decide) (by decide)) ?_
     rintro e Oa ⟨rfl,eu⟩
     rw [decide_eq_true (show (x*y)=(y*x) from (by grind))]
     have LC:=Pl.Ex.size eu
     have vk:=Pl.Ex.trans xC eu
     refine ⟨_,rfl,vk,?_⟩
     refine Pl.aG vk rfl ?_
     refine Pl.bT (part:=[.bool (decide (iW<0)),.slice iq (limbs (Int.natAbs iW)).length iw,.int .i64 mg]) (fun X hX=>Pl.Cb.ex (Pl.Cb.ex fO (Pl.Ex.trans dh (Pl.Ex.trans bf (Pl.Ex.trans bI bY)))) hX) rfl Tryz.underlying26 rfl (by kernel_rfl) vk rfl rfl rfl rfl rfl ?_
     refine Pl.bT (part:=[.bool (decide (gW<0)),.slice kT (limbs (Int.natAbs gW)).length kU,.int .i64 kS]) (fun X hX=>Pl.Cb.ex (Pl.Cb.ex uF (Pl.Ex.trans aH (Pl.Ex.trans bu (Pl.Ex.trans dh (Pl.Ex.trans bf (Pl.Ex.trans bI bY)))))) hX) rfl Tryz.underlying26 rfl (by kernel_rfl) vk rfl rfl rfl rfl rfl ?_
     refine Pl.bT (part:=[.bool (decide (aN<0)),.slice aX (limbs (Int.natAbs aN)).length aY,.int .i64 bJ]) (fun X hX=>Pl.Cb.ex (Pl.Cb.ex aV (Pl.Ex.trans aH (Pl.Ex.trans bu (Pl.Ex.trans dh (Pl.Ex.trans bf (Pl.Ex.trans bI bY)))))) hX) rfl Tryz.underlying26 rfl (by kernel_rfl) vk rfl rfl rfl rfl rfl ?_
     refine Pl.bT (part:=[.bool (decide (aT<0)),.slice dB (limbs (Int.natAbs aT)).length dD,.int .i64 dA]) (fun X hX=>Pl.Cb.ex (Pl.Cb.ex dV (Pl.Ex.trans aH (Pl.Ex.trans bu (Pl.Ex.trans dh (Pl.Ex.trans bf (Pl.Ex.trans bI bY)))))) hX) rfl Tryz.underlying26 rfl (by kernel_rfl) vk rfl rfl rfl rfl rfl ?_
     refine Pl.bT (part:=[.bool (decide (gW<0)),.slice kT (limbs (Int.natAbs gW)).length kU,.int .i64 kS]) (fun X hX=>Pl.Cb.ex (Pl.Cb.ex uF (Pl.Ex.trans aH (Pl.Ex.trans bu (Pl.Ex.trans dh (Pl.Ex.trans bf (Pl.Ex.trans bI bY)))))) hX) rfl Tryz.underlying26 rfl (by kernel_rfl) vk rfl rfl rfl rfl rfl ?_
     refine Pl.ah rfl rfl rfl rfl rfl (fun u X=>Pl.enters Tryz.func26 (by kernel_rfl) rfl u X) ?_
     refine Calls.mono (lG _ (hg.ext (Pl.Ex.trans hE1 (Pl.Ex.trans hE2 (Pl.Ex.trans aO (Pl.Ex.trans aR (Pl.Ex.trans aP (Pl.Ex.trans aM (Pl.Ex.trans aH (Pl.Ex.trans bu (Pl.Ex.trans dh (Pl.Ex.trans bf (Pl.Ex.trans bI (Pl.Ex.trans bY (Pl.Ex.trans bM (Pl.Ex.trans ed (Pl.Ex.trans dK (Pl.Ex.trans dW eu))))))))))))))))) _ _ (x+y) z 30 51 (-201) 1416 (Dn.le (Dn.mk (Un.below nW (Pl.Ex.trans dh (Pl.Ex.trans bf (Pl.Ex.trans bI (Pl.Ex.trans bY (Pl.Ex.trans bM (Pl.Ex.trans ed (Pl.Ex.trans dK (Pl.Ex.trans dW eu))))))))) lQ.can lQ.val lQ.sz lQ.lo lQ.hi) (by decide) (by decide) (by decide)) (Dn.le (Dn.mk (Un.below uY (Pl.Ex.trans aH (Pl.Ex.trans bu (Pl.Ex.trans dh (Pl.Ex.trans bf (Pl.Ex.trans bI (Pl.Ex.trans bY (Pl.Ex.trans bM (Pl.Ex.trans ed (Pl.Ex.trans dK (Pl.Ex.trans dW eu))))))))))) jH.can jH.val jH.sz jH.lo jH.hi) (by decide) (by decide) (by decide)) (by decide) (by decide) (by decide) (by decide) (-202) 4040 (by decide) (by decide) (by decide) (by decide)) ?_
     rintro e OH ⟨v18,rfl,Kt,dZ⟩
     obtain ⟨m19,e20,Dg,Dh,rfl,u23,OU⟩:=Kt
     have af6:=OU.lo
     have af7:=OU.hi
     have J6:=Pl.Ex.size dZ
     have uk:=Pl.Ex.trans vk dZ
     refine ⟨_,rfl,uk,?_⟩
     refine Pl.ah rfl rfl rfl rfl rfl (fun u X=>Pl.enters Tryz.func26 (by kernel_rfl) rfl u X) ?_
     refine Calls.mono (lG _ (hg.ext (Pl.Ex.trans hE1 (Pl.Ex.trans hE2 (Pl.Ex.trans aO (Pl.Ex.trans aR (Pl.Ex.trans aP (Pl.Ex.trans aM (Pl.Ex.trans aH (Pl.Ex.trans bu (Pl.Ex.trans dh (Pl.Ex.trans bf (Pl.Ex.trans bI (Pl.Ex.trans bY (Pl.Ex.trans bM (Pl.Ex.trans ed (Pl.Ex.trans dK (Pl.Ex.trans dW (Pl.Ex.trans eu dZ)))))))))))))))))) _ _ y z 8 21 (-200) 456 (Dn.le (Dn.mk (Un.below gG (Pl.Ex.trans aH (Pl.Ex.trans bu (Pl.Ex.trans dh (Pl.Ex.trans bf (Pl.Ex.trans bI (Pl.Ex.trans bY (Pl.Ex.trans bM (Pl.Ex.trans ed (Pl.Ex.trans dK (Pl.Ex.trans dW (Pl.Ex.trans eu dZ)))))))))))) bH.can bH.val bH.sz bH.lo bH.hi) (by decide) (by decide) (by decide)) (Dn.le (Dn.mk (Un.below uY (Pl.Ex.trans aH (Pl.Ex.trans bu (Pl.Ex.trans dh (Pl.Ex.trans bf (Pl.Ex.trans bI (Pl.Ex.trans bY (Pl.Ex.trans bM (Pl.Ex.trans ed (Pl.Ex.trans dK (Pl.Ex.trans dW (Pl.Ex.trans eu dZ)))))))))))) jH.can jH.val jH.sz jH.lo jH.hi) (by decide) (by decide) (by decide)) (by decide) (by decide) (by decide) (by decide) (-201) 1416 (by decide) (by decide) (by decide) (by decide)) ?_
     rintro e Vd ⟨v25,rfl,hv25,fu⟩
     obtain ⟨m26,e27,A28,c29,rfl,u30,EL⟩:=hv25
     have adl:=EL.lo
     have adm:=EL.hi
     have J7:=Pl.Ex.size fu
     have sV:=Pl.Ex.trans uk fu
     refine ⟨_,rfl,sV,?_⟩
     refine Pl.ah rfl rfl rfl rfl rfl (fun u X=>Pl.enters Tryz.func26 (by kernel_rfl) rfl u X) ?_
     refine Calls.mono (lG _ (hg.ext (Pl.Ex.trans hE1 (Pl.Ex.trans hE2 (Pl.Ex.trans aO (Pl.Ex.trans aR (Pl.Ex.trans aP (Pl.Ex.trans aM (Pl.Ex.trans aH (Pl.Ex.trans bu (Pl.Ex.trans dh (Pl.Ex.trans bf (Pl.Ex.trans bI (Pl.Ex.trans bY (Pl.Ex.trans bM (Pl.Ex.trans ed (Pl.Ex.trans dK (Pl.Ex.trans dW (Pl.Ex.trans eu (Pl.Ex.trans dZ fu))))))))))))))))))) _ _ x (y+z) 30 51 (-201) 1416 (Dn.le (Dn.mk (Un.below dS (Pl.Ex.trans aH (Pl.Ex.trans bu (Pl.Ex.trans dh (Pl.Ex.trans bf (Pl.Ex.trans bI (Pl.Ex.trans bY (Pl.Ex.trans bM (Pl.Ex.trans ed (Pl.Ex.trans dK (Pl.Ex.trans dW (Pl.Ex.trans eu (Pl.Ex.trans dZ fu))))))))))))) bz.can bz.val bz.sz bz.lo bz.hi) (by decide) (by decide) (by decide)) (Dn.le (Dn.mk u30 EL.can EL.val EL.sz EL.lo EL.hi) (by decide) (by decide) (by decide)) (by decide) (by decide) (by decide) (by decide) (-202) 4040 (by decide) (by decide) (by decide) (by decide)) ?_
     rintro e Y5 ⟨v32,rfl,hv32,hE20⟩
     obtain ⟨m33,e34,A35,c36,rfl,u37,Ku⟩:=hv32
     have af8:=Ku.lo
     have af9:=Ku.hi
     have LD:=Pl.Ex.size hE20
     have uP:=Pl.Ex.trans sV hE20
     refine ⟨_,rfl,uP,?_⟩
     refine Pl.ah rfl rfl rfl rfl rfl (fun u X=>Pl.enters Tryz.func17 (by kernel_rfl) rfl u X) ?_
     refine Calls.mono (dR _ _ _ ((x+y)+z) (x+(y+z)) _ _ _ _ _ _ (Dn.mk (Un.below u23 (Pl.Ex.trans fu hE20)) OU.can OU.val OU.sz OU.lo OU.hi) (Dn.mk u37 Ku.can Ku.val Ku.sz Ku.lo Ku.hi) (by decide) (by decide)) ?_
     rintro e Vg ⟨rfl,fT⟩
     rw [decide_eq_true (show ((x+y)+z)=(x+(y+z)) from (by first | rfl | grind))]
     have OI:=Pl.Ex.size fT
     have qL:=Pl.Ex.trans uP fT
     refine ⟨_,rfl,qL,?_⟩
     refine Pl.aG qL rfl ?_
     refine Pl.bT (part:=[.bool (decide (oq<0)),.slice nO (limbs (Int.natAbs oq)).length nP,.int .i64 vJ]) (fun X hX=>Pl.Cb.ex (Pl.Cb.ex qH (Pl.Ex.trans dh (Pl.Ex.trans bf (Pl.Ex.trans bI bY)))) hX) rfl Tryz.underlying26 rfl (by kernel_rfl) qL rfl rfl rfl rfl rfl ?_
     refine Pl.bT (part:=[.bool (decide (gW<0)),.slice kT (limbs (Int.natAbs gW)).length kU,.int .i64 kS]) (fun X hX=>Pl.Cb.ex (Pl.Cb.ex uF (Pl.Ex.trans aH (Pl.Ex.trans bu (Pl.Ex.trans dh (Pl.Ex.trans bf (Pl.Ex.trans bI bY)))))) hX) rfl Tryz.underlying26 rfl (by kernel_rfl) qL rfl rfl rfl rfl rfl ?_
     refine Pl.bT (part:=[.bool (decide (aN<0)),.slice aX (limbs (Int.natAbs aN)).length aY,.int .i64 bJ]) (fun X hX=>Pl.Cb.ex (Pl.Cb.ex aV (Pl.Ex.trans aH (Pl.Ex.trans bu (Pl.Ex.trans dh (Pl.Ex.trans bf (Pl.Ex.trans bI bY)))))) hX) rfl Tryz.underlying26 rfl (by kernel_rfl) qL rfl rfl rfl rfl rfl ?_
     refine Pl.bT (part:=[.bool (decide (aT<0)),.slice dB (limbs (Int.natAbs aT)).length dD,.int .i64 dA]) (fun X hX=>Pl.Cb.ex (Pl.Cb.ex dV (Pl.Ex.trans aH (Pl.Ex.trans bu (Pl.Ex.trans dh (Pl.Ex.trans bf (Pl.Ex.trans bI bY)))))) hX) rfl Tryz.underlying26 rfl (by kernel_rfl) qL rfl rfl rfl rfl rfl ?_
     refine Pl.bT (part:=[.bool (decide (gW<0)),.slice kT (limbs (Int.natAbs gW)).length kU,.int .i64 kS]) (fun X hX=>Pl.Cb.ex (Pl.Cb.ex uF (Pl.Ex.trans aH (Pl.Ex.trans bu (Pl.Ex.trans dh (Pl.Ex.trans bf (Pl.Ex.trans bI bY)))))) hX) rfl Tryz.underlying26 rfl (by kernel_rfl) qL rfl rfl rfl rfl rfl ?_
     refine Pl.ah rfl rfl rfl rfl rfl (fun u X=>Pl.enters Tryz.func30 (by kernel_rfl) rfl u X) ?_
     refine Calls.mono (lW _ (hg.ext (Pl.Ex.trans hE1 (Pl.Ex.trans hE2 (Pl.Ex.trans aO (Pl.Ex.trans aR (Pl.Ex.trans aP (Pl.Ex.trans aM (Pl.Ex.trans aH (Pl.Ex.trans bu (Pl.Ex.trans dh (Pl.Ex.trans bf (Pl.Ex.trans bI (Pl.Ex.trans bY (Pl.Ex.trans bM (Pl.Ex.trans ed (Pl.Ex.trans dK (Pl.Ex.trans dW (Pl.Ex.trans eu (Pl.Ex.trans dZ (Pl.Ex.trans fu (Pl.Ex.trans hE20 fT))))))))))))))))))))) _ _ (x*y) z 16 8 (-400) 1424 (Dn.le (Dn.mk (Un.below yg (Pl.Ex.trans dh (Pl.Ex.trans bf (Pl.Ex.trans bI (Pl.Ex.trans bY (Pl.Ex.trans bM (Pl.Ex.trans ed (Pl.Ex.trans dK (Pl.Ex.trans dW (Pl.Ex.trans eu (Pl.Ex.trans dZ (Pl.Ex.trans fu (Pl.Ex.trans hE20 fT))))))))))))) tT.can tT.val tT.sz tT.lo tT.hi) (by decide) (by decide) (by decide):Dn _ _ _ 16 (-400) 1424) (Dn.le (Dn.mk (Un.below uY (Pl.Ex.trans aH (Pl.Ex.trans bu (Pl.Ex.trans dh (Pl.Ex.trans bf (Pl.Ex.trans bI (Pl.Ex.trans bY (Pl.Ex.trans bM (Pl.Ex.trans ed (Pl.Ex.trans dK (Pl.Ex.trans dW (Pl.Ex.trans eu (Pl.Ex.trans dZ (Pl.Ex.trans fu (Pl.Ex.trans hE20 fT))))))))))))))) jH.can jH.val jH.sz jH.lo jH.hi) (by decide) (by decide) (by decide):Dn _ _ _ 8 (-400) 1424) (by decide) (by decide) (by decide) (by decide) (-800) 3616 (by decide) (by decide) (by decide) (by decide)) ?_
     rintro e w22 ⟨v39,rfl,hv39,gF⟩
     obtain ⟨m40,e41,A42,c43,rfl,u44,Qz⟩:=hv39
     have aj1:=Qz.lo
     have aj2:=Qz.hi
     have OJ:=Pl.Ex.size gF
     have vY:=Pl.Ex.trans qL gF
     refine ⟨_,rfl,vY,?_⟩
     refine Pl.ah rfl rfl rfl rfl rfl (fun u X=>Pl.enters Tryz.func30 (by kernel_rfl) rfl u X) ?_
     refine Calls.mono (lW _ (hg.ext (Pl.Ex.trans hE1 (Pl.Ex.trans hE2 (Pl.Ex.trans aO (Pl.Ex.trans aR (Pl.Ex.trans aP (Pl.Ex.trans aM (Pl.Ex.trans aH (Pl.Ex.trans bu (Pl.Ex.trans dh (Pl.Ex.trans bf (Pl.Ex.trans bI (Pl.Ex.trans bY (Pl.Ex.trans bM (Pl.Ex.trans ed (Pl.Ex.trans dK (Pl.Ex.trans dW (Pl.Ex.trans eu (Pl.Ex.trans dZ (Pl.Ex.trans fu (Pl.Ex.trans hE20 (Pl.Ex.trans fT gF)))))))))))))))))))))) _ _ y z 8 8 (-200) 456 (Dn.le (Dn.mk (Un.below gG (Pl.Ex.trans aH (Pl.Ex.trans bu (Pl.Ex.trans dh (Pl.Ex.trans bf (Pl.Ex.trans bI (Pl.Ex.trans bY (Pl.Ex.trans bM (Pl.Ex.trans ed (Pl.Ex.trans dK (Pl.Ex.trans dW (Pl.Ex.trans eu (Pl.Ex.trans dZ (Pl.Ex.trans fu (Pl.Ex.trans hE20 (Pl.Ex.trans fT gF)))))))))))))))) bH.can bH.val bH.sz bH.lo bH.hi) (by decide) (by decide) (by decide):Dn _ _ _ 8 (-200) 456) (Dn.le (Dn.mk (Un.below uY (Pl.Ex.trans aH (Pl.Ex.trans bu (Pl.Ex.trans dh (Pl.Ex.trans bf (Pl.Ex.trans bI (Pl.Ex.trans bY (Pl.Ex.trans bM (Pl.Ex.trans ed (Pl.Ex.trans dK (Pl.Ex.trans dW (Pl.Ex.trans eu (Pl.Ex.trans dZ (Pl.Ex.trans fu (Pl.Ex.trans hE20 (Pl.Ex.trans fT gF)))))))))))))))) jH.can jH.val jH.sz jH.lo jH.hi) (by decide) (by decide) (by decide):Dn _ _ _ 8 (-200) 456) (by decide) (by decide) (by decide) (by decide) (-400) 1424 (by decide) (by decide) (by decide) (by decide)) ?_
     rintro e ZY ⟨v46,rfl,akm,iH⟩
     obtain ⟨m47,e48,A49,c50,rfl,u51,d52⟩:=akm
     have arl:=d52.lo
     have arn:=d52.hi
     have OL:=Pl.Ex.size iH
     have xm:=Pl.Ex.trans vY iH
     refine ⟨_,rfl,xm,?_⟩
     refine Pl.ah rfl rfl rfl rfl rfl (fun u X=>Pl.enters Tryz.func30 (by kernel_rfl) rfl u X) ?_
     refine Calls.mono (lW _ (hg.ext (Pl.Ex.trans hE1 (Pl.Ex.trans hE2 (Pl.Ex.trans aO (Pl.Ex.trans aR (Pl.Ex.trans aP (Pl.Ex.trans aM (Pl.Ex.trans aH (Pl.Ex.trans bu (Pl.Ex.trans dh (Pl.Ex.trans bf (Pl.Ex.trans bI (Pl.Ex.trans bY (Pl.Ex.trans bM (Pl.Ex.trans ed (Pl.Ex.trans dK (Pl.Ex.trans dW (Pl.Ex.trans eu (Pl.Ex.trans dZ (Pl.Ex.trans fu (Pl.Ex.trans hE20 (Pl.Ex.trans fT (Pl.Ex.trans gF iH))))))))))))))))))))))) _ _ x (y*z) 8 16 (-400) 1424 (Dn.le (Dn.mk (Un.below dS (Pl.Ex.trans aH (Pl.Ex.trans bu (Pl.Ex.trans dh (Pl.Ex.trans bf (Pl.Ex.trans bI (Pl.Ex.trans bY (Pl.Ex.trans bM (Pl.Ex.trans ed (Pl.Ex.trans dK (Pl.Ex.trans dW (Pl.Ex.trans eu (Pl.Ex.trans dZ (Pl.Ex.trans fu (Pl.Ex.trans hE20 (Pl.Ex.trans fT (Pl.Ex.trans gF iH))))))))))))))))) bz.can bz.val bz.sz bz.lo bz.hi) (by decide) (by decide) (by decide):Dn _ _ _ 8 (-400) 1424) (Dn.le (Dn.mk u51 d52.can d52.val d52.sz d52.lo d52.hi) (by decide) (by decide) (by decide):Dn _ _ _ 16 (-400) 1424) (by decide) (by decide) (by decide) (by decide) (-800) 3616 (by decide) (by decide) (by decide) (by decide)) ?_
     rintro e ZZ ⟨v53,rfl,akn,gY⟩
     obtain ⟨m54,e55,A56,c57,rfl,u58,d59⟩:=akn
     have aro:=d59.lo
     have arp:=d59.hi
     have OM:=Pl.Ex.size gY
     have Bd:=Pl.Ex.trans xm gY
     refine ⟨_,rfl,Bd,?_⟩
     refine Pl.ah rfl rfl rfl rfl rfl (fun u X=>Pl.enters Tryz.func17 (by kernel_rfl) rfl u X) ?_
     refine Calls.mono (dR _ _ _ ((x*y)*z) (x*(y*z)) _ _ _ _ _ _ (Dn.mk (Un.below u44 (Pl.Ex.trans iH gY)) Qz.can Qz.val Qz.sz Qz.lo Qz.hi) (Dn.mk u58 d59.can d59.val d59.sz d59.lo d59.hi) (by decide) (by decide)) ?_
     rintro e w25 ⟨rfl,iM⟩
     rw [decide_eq_true (show ((x*y)*z)=(x*(y*z)) from (by first | rfl | grind))]
     have VM:=Pl.Ex.size iM
     have CB:=Pl.Ex.trans Bd iM
     refine ⟨_,rfl,CB,?_⟩
     refine Pl.aG CB rfl ?_
     refine Pl.bT (part:=[.bool (decide (iW<0)),.slice iq (limbs (Int.natAbs iW)).length iw,.int .i64 mg]) (fun X hX=>Pl.Cb.ex (Pl.Cb.ex fO (Pl.Ex.trans dh (Pl.Ex.trans bf (Pl.Ex.trans bI bY)))) hX) rfl Tryz.underlying26 rfl (by kernel_rfl) CB rfl rfl rfl rfl rfl ?_
     refine Pl.bT (part:=[.bool (decide (gW<0)),.slice kT (limbs (Int.natAbs gW)).length kU,.int .i64 kS]) (fun X hX=>Pl.Cb.ex (Pl.Cb.ex uF (Pl.Ex.trans aH (Pl.Ex.trans bu (Pl.Ex.trans dh (Pl.Ex.trans bf (Pl.Ex.trans bI bY)))))) hX) rfl Tryz.underlying26 rfl (by kernel_rfl) CB rfl rfl rfl rfl rfl ?_
     refine Pl.bT (part:=[.bool (decide (aN<0)),.slice aX (limbs (Int.natAbs aN)).length aY,.int .i64 bJ]) (fun X hX=>Pl.Cb.ex (Pl.Cb.ex aV (Pl.Ex.trans aH (Pl.Ex.trans bu (Pl.Ex.trans dh (Pl.Ex.trans bf (Pl.Ex.trans bI bY)))))) hX) rfl Tryz.underlying26 rfl (by kernel_rfl) CB rfl rfl rfl rfl rfl ?_
     refine Pl.bT (part:=[.bool (decide (gW<0)),.slice kT (limbs (Int.natAbs gW)).length kU,.int .i64 kS]) (fun X hX=>Pl.Cb.ex (Pl.Cb.ex uF (Pl.Ex.trans aH (Pl.Ex.trans bu (Pl.Ex.trans dh (Pl.Ex.trans bf (Pl.Ex.trans bI bY)))))) hX) rfl Tryz.underlying26 rfl (by kernel_rfl) CB rfl rfl rfl rfl rfl ?_
     refine Pl.bT (part:=[.bool (decide (aT<0)),.slice dB (limbs (Int.natAbs aT)).length dD,.int .i64 dA]) (fun X hX=>Pl.Cb.ex (Pl.Cb.ex dV (Pl.Ex.trans aH (Pl.Ex.trans bu (Pl.Ex.trans dh (Pl.Ex.trans bf (Pl.Ex.trans bI bY)))))) hX) rfl Tryz.underlying26 rfl (by kernel_rfl) CB rfl rfl rfl rfl rfl ?_
     refine Pl.bT (part:=[.bool (decide (gW<0)),.slice kT (limbs (Int.natAbs gW)).length kU,.int .i64 kS]) (fun X hX=>Pl.Cb.ex (Pl.Cb.ex uF (Pl.Ex.trans aH (Pl.Ex.trans bu (Pl.Ex.trans dh (Pl.Ex.trans bf (Pl.Ex.trans bI bY)))))) hX) rfl Tryz.underlying26 rfl (by kernel_rfl) CB rfl rfl rfl rfl rfl ?_
     refine Pl.ah rfl rfl rfl rfl rfl (fun u X=>Pl.enters Tryz.func30 (by kernel_rfl) rfl u X) ?_
     refine Calls.mono (lW _ (hg.ext (Pl.Ex.trans hE1 (Pl.Ex.trans hE2 (Pl.Ex.trans aO (Pl.Ex.trans aR (Pl.Ex.trans aP (Pl.Ex.trans aM (Pl.Ex.trans aH (Pl.Ex.trans bu (Pl.Ex.trans dh (Pl.Ex.trans bf (Pl.Ex.trans bI (Pl.Ex.trans bY (Pl.Ex.trans bM (Pl.Ex.trans ed (Pl.Ex.trans dK (Pl.Ex.trans dW (Pl.Ex.trans eu (Pl.Ex.trans dZ (Pl.Ex.trans fu (Pl.Ex.trans hE20 (Pl.Ex.trans fT (Pl.Ex.trans gF (Pl.Ex.trans iH (Pl.Ex.trans gY iM))))))))))))))))))))))))) _ _ (x+y) z 30 8 (-201) 1416 (Dn.le (Dn.mk (Un.below nW (Pl.Ex.trans dh (Pl.Ex.trans bf (Pl.Ex.trans bI (Pl.Ex.trans bY (Pl.Ex.trans bM (Pl.Ex.trans ed (Pl.Ex.trans dK (Pl.Ex.trans dW (Pl.Ex.trans eu (Pl.Ex.trans dZ (Pl.Ex.trans fu (Pl.Ex.trans hE20 (Pl.Ex.trans fT (Pl.Ex.trans gF (Pl.Ex.trans iH (Pl.Ex.trans gY iM))))))))))))))))) lQ.can lQ.val lQ.sz lQ.lo lQ.hi) (by decide) (by decide) (by decide):Dn _ _ _ 30 (-201) 1416) (Dn.le (Dn.mk (Un.below uY (Pl.Ex.trans aH (Pl.Ex.trans bu (Pl.Ex.trans dh (Pl.Ex.trans bf (Pl.Ex.trans bI (Pl.Ex.trans bY (Pl.Ex.trans bM (Pl.Ex.trans ed (Pl.Ex.trans dK (Pl.Ex.trans dW (Pl.Ex.trans eu (Pl.Ex.trans dZ (Pl.Ex.trans fu (Pl.Ex.trans hE20 (Pl.Ex.trans fT (Pl.Ex.trans gF (Pl.Ex.trans iH (Pl.Ex.trans gY iM))))))))))))))))))) jH.can jH.val jH.sz jH.lo jH.hi) (by decide) (by decide) (by decide):Dn _ _ _ 8 (-201) 1416) (by decide) (by decide) (by decide) (by decide) (-402) 4048 (by decide) (by decide) (by decide) (by decide)) ?_
     rintro e w26 ⟨v60,rfl,ako,jd⟩
     obtain ⟨m61,e62,A63,c64,rfl,u65,d66⟩:=ako
     have ars:=d66.lo
     have art:=d66.hi
     have VN:=Pl.Ex.size jd
     have yh:=Pl.Ex.trans CB jd
     refine ⟨_,rfl,yh,?_⟩
     refine Pl.ah rfl rfl rfl rfl rfl (fun u X=>Pl.enters Tryz.func30 (by kernel_rfl) rfl u X) ?_
     refine Calls.mono (lW _ (hg.ext (Pl.Ex.trans hE1 (Pl.Ex.trans hE2 (Pl.Ex.trans aO (Pl.Ex.trans aR (Pl.Ex.trans aP (Pl.Ex.trans aM (Pl.Ex.trans aH (Pl.Ex.trans bu (Pl.Ex.trans dh (Pl.Ex.trans bf (Pl.Ex.trans bI (Pl.Ex.trans bY (Pl.Ex.trans bM (Pl.Ex.trans ed (Pl.Ex.trans dK (Pl.Ex.trans dW (Pl.Ex.trans eu (Pl.Ex.trans dZ (Pl.Ex.trans fu (Pl.Ex.trans hE20 (Pl.Ex.trans fT (Pl.Ex.trans gF (Pl.Ex.trans iH (Pl.Ex.trans gY (Pl.Ex.trans iM jd)))))))))))))))))))))))))) _ _ x z 8 8 (-200) 456 (Dn.le (Dn.mk (Un.below dS (Pl.Ex.trans aH (Pl.Ex.trans bu (Pl.Ex.trans dh (Pl.Ex.trans bf (Pl.Ex.trans bI (Pl.Ex.trans bY (Pl.Ex.trans bM (Pl.Ex.trans ed (Pl.Ex.trans dK (Pl.Ex.trans dW (Pl.Ex.trans eu (Pl.Ex.trans dZ (Pl.Ex.trans fu (Pl.Ex.trans hE20 (Pl.Ex.trans fT (Pl.Ex.trans gF (Pl.Ex.trans iH (Pl.Ex.trans gY (Pl.Ex.trans iM jd)))))))))))))))))))) bz.can bz.val bz.sz bz.lo bz.hi) (by decide) (by decide) (by decide):Dn _ _ _ 8 (-200) 456) (Dn.le (Dn.mk (Un.below uY (Pl.Ex.trans aH (Pl.Ex.trans bu (Pl.Ex.trans dh (Pl.Ex.trans bf (Pl.Ex.trans bI (Pl.Ex.trans bY (Pl.Ex.trans bM (Pl.Ex.trans ed (Pl.Ex.trans dK (Pl.Ex.trans dW (Pl.Ex.trans eu (Pl.Ex.trans dZ (Pl.Ex.trans fu (Pl.Ex.trans hE20 (Pl.Ex.trans fT (Pl.Ex.trans gF (Pl.Ex.trans iH (Pl.Ex.trans gY (Pl.Ex.trans iM jd)))))))))))))))))))) jH.can jH.val jH.sz jH.lo jH.hi) (by decide) (by decide) (by decide):Dn _ _ _ 8 (-200) 456) (by decide) (by decide) (by decide) (by decide) (-400) 1424 (by decide) (by decide) (by decide) (by decide)) ?_
     rintro e w27 ⟨v67,rfl,akp,kR⟩
     obtain ⟨m68,e69,A70,c71,rfl,u72,d73⟩:=akp
     have aru:=d73.lo
     have arv:=d73.hi
     have Z7:=Pl.Ex.size kR
     have Ko:=Pl.Ex.trans yh kR
     refine ⟨_,rfl,Ko,?_⟩
     refine Pl.ah rfl rfl rfl rfl rfl (fun u X=>Pl.enters Tryz.func30 (by kernel_rfl) rfl u X) ?_
     refine Calls.mono (lW _ (hg.ext (Pl.Ex.trans hE1 (Pl.Ex.trans hE2 (Pl.Ex.trans aO (Pl.Ex.trans aR (Pl.Ex.trans aP (Pl.Ex.trans aM (Pl.Ex.trans aH (Pl.Ex.trans bu (Pl.Ex.trans dh (Pl.Ex.trans bf (Pl.Ex.trans bI (Pl.Ex.trans bY (Pl.Ex.trans bM (Pl.Ex.trans ed (Pl.Ex.trans dK (Pl.Ex.trans dW (Pl.Ex.trans eu (Pl.Ex.trans dZ (Pl.Ex.trans fu (Pl.Ex.trans hE20 (Pl.Ex.trans fT (Pl.Ex.trans gF (Pl.Ex.trans iH (Pl.Ex.trans gY (Pl.Ex.trans iM (Pl.Ex.trans jd kR))))))))))))))))))))))))))) _ _ y z 8 8 (-200) 456 (Dn.le (Dn.mk (Un.below gG (Pl.Ex.trans aH (Pl.Ex.trans bu (Pl.Ex.trans dh (Pl.Ex.trans bf (Pl.Ex.trans bI (Pl.Ex.trans bY (Pl.Ex.trans bM (Pl.Ex.trans ed (Pl.Ex.trans dK (Pl.Ex.trans dW (Pl.Ex.trans eu (Pl.Ex.trans dZ (Pl.Ex.trans fu (Pl.Ex.trans hE20 (Pl.Ex.trans fT (Pl.Ex.trans gF (Pl.Ex.trans iH (Pl.Ex.trans gY (Pl.Ex.trans iM (Pl.Ex.trans jd kR))))))))))))))))))))) bH.can bH.val bH.sz bH.lo bH.hi) (by decide) (by decide) (by decide):Dn _ _ _ 8 (-200) 456) (Dn.le (Dn.mk (Un.below uY (Pl.Ex.trans aH (Pl.Ex.trans bu (Pl.Ex.trans dh (Pl.Ex.trans bf (Pl.Ex.trans bI (Pl.Ex.trans bY (Pl.Ex.trans bM (Pl.Ex.trans ed (Pl.Ex.trans dK (Pl.Ex.trans dW (Pl.Ex.trans eu (Pl.Ex.trans dZ (Pl.Ex.trans fu (Pl.Ex.trans hE20 (Pl.Ex.trans fT (Pl.Ex.trans gF (Pl.Ex.trans iH (Pl.Ex.trans gY (Pl.Ex.trans iM (Pl.Ex.trans jd kR))))))))))))))))))))) jH.can jH.val jH.sz jH.lo jH.hi) (by decide) (by decide) (by decide):Dn _ _ _ 8 (-200) 456) (by decide) (by decide) (by decide) (by decide) (-400) 1424 (by decide) (by decide) (by decide) (by decide)) ?_
     rintro e w28 ⟨v74,rfl,akq,jX⟩
     obtain ⟨m75,e76,A77,c78,rfl,u79,d80⟩:=akq
     have arx:=d80.lo
     have ary:=d80.hi
     have Z8:=Pl.Ex.size jX
     have EJ:=Pl.Ex.trans Ko jX
     refine ⟨_,rfl,EJ,?_⟩
     refine Pl.ah rfl rfl rfl rfl rfl (fun u X=>Pl.enters Tryz.func26 (by kernel_rfl) rfl u X) ?_
     refine Calls.mono (lG _ (hg.ext (Pl.Ex.trans hE1 (Pl.Ex.trans hE2 (Pl.Ex.trans aO (Pl.Ex.trans aR (Pl.Ex.trans aP (Pl.Ex.trans aM (Pl.Ex.trans aH (Pl.Ex.trans bu (Pl.Ex.trans dh (Pl.Ex.trans bf (Pl.Ex.trans bI (Pl.Ex.trans bY (Pl.Ex.trans bM (Pl.Ex.trans ed (Pl.Ex.trans dK (Pl.Ex.trans dW (Pl.Ex.trans eu (Pl.Ex.trans dZ (Pl.Ex.trans fu (Pl.Ex.trans hE20 (Pl.Ex.trans fT (Pl.Ex.trans gF (Pl.Ex.trans iH (Pl.Ex.trans gY (Pl.Ex.trans iM (Pl.Ex.trans jd (Pl.Ex.trans kR jX)))))))))))))))))))))))))))) _ _ (x*z) (y*z) 16 57 (-400) 1424 (Dn.le (Dn.mk (Un.below u72 jX) d73.can d73.val d73.sz d73.lo d73.hi) (by decide) (by decide) (by decide)) (Dn.le (Dn.mk u79 d80.can d80.val d80.sz d80.lo d80.hi) (by decide) (by decide) (by decide)) (by decide) (by decide) (by decide) (by decide) (-401) 3792 (by decide) (by decide) (by decide) (by decide)) ?_
     rintro e w29 ⟨v81,rfl,ads,kv⟩
     obtain ⟨m82,e83,A84,c85,rfl,u86,d87⟩:=ads
     have arA:=d87.lo
     have arB:=d87.hi
     have Z9:=Pl.Ex.size kv
     have AJ:=Pl.Ex.trans EJ kv
     refine ⟨_,rfl,AJ,?_⟩
     refine Pl.ah rfl rfl rfl rfl rfl (fun u X=>Pl.enters Tryz.func17 (by kernel_rfl) rfl u X) ?_
     refine Calls.mono (dR _ _ _ ((x+y)*z) ((x*z)+(y*z)) _ _ _ _ _ _ (Dn.mk (Un.below u65 (Pl.Ex.trans kR (Pl.Ex.trans jX kv))) d66.can d66.val d66.sz d66.lo d66.hi) (Dn.mk u86 d87.can d87.val d87.sz d87.lo d87.hi) (by decide) (by decide)) ?_
     rintro e w30 ⟨rfl,kY⟩
     rw [decide_eq_true (show ((x+y)*z)=((x*z)+(y*z)) from (by grind))]
     have aaa:=Pl.Ex.size kY
     have Cf:=Pl.Ex.trans AJ kY
     refine ⟨_,rfl,Cf,?_⟩
     refine Pl.aG Cf rfl ?_
     refine Pl.bT (part:=[.bool (decide (iW<0)),.slice iq (limbs (Int.natAbs iW)).length iw,.int .i64 mg]) (fun X hX=>Pl.Cb.ex (Pl.Cb.ex fO (Pl.Ex.trans dh (Pl.Ex.trans bf (Pl.Ex.trans bI bY)))) hX) rfl Tryz.underlying26 rfl (by kernel_rfl) Cf rfl rfl rfl rfl rfl ?_
     refine Pl.bT (part:=[.bool (decide (aT<0)),.slice dB (limbs (Int.natAbs aT)).length dD,.int .i64 dA]) (fun X hX=>Pl.Cb.ex (Pl.Cb.ex dV (Pl.Ex.trans aH (Pl.Ex.trans bu (Pl.Ex.trans dh (Pl.Ex.trans bf (Pl.Ex.trans bI bY)))))) hX) rfl Tryz.underlying26 rfl (by kernel_rfl) Cf rfl rfl rfl rfl rfl ?_
     refine Pl.bT (part:=[.bool (decide (aN<0)),.slice aX (limbs (Int.natAbs aN)).length aY,.int .i64 bJ]) (fun X hX=>Pl.Cb.ex (Pl.Cb.ex aV (Pl.Ex.trans aH (Pl.Ex.trans bu (Pl.Ex.trans dh (Pl.Ex.trans bf (Pl.Ex.trans bI bY)))))) hX) rfl Tryz.underlying26 rfl (by kernel_rfl) Cf rfl rfl rfl rfl rfl ?_
     refine Pl.ah rfl rfl rfl rfl rfl (fun u X=>Pl.enters Tryz.func28 (by kernel_rfl) rfl u X) ?_
     refine Calls.mono (sK _ (hg.ext (Pl.Ex.trans hE1 (Pl.Ex.trans hE2 (Pl.Ex.trans aO (Pl.Ex.trans aR (Pl.Ex.trans aP (Pl.Ex.trans aM (Pl.Ex.trans aH (Pl.Ex.trans bu (Pl.Ex.trans dh (Pl.Ex.trans bf (Pl.Ex.trans bI (Pl.Ex.trans bY (Pl.Ex.trans bM (Pl.Ex.trans ed (Pl.Ex.trans dK (Pl.Ex.trans dW (Pl.Ex.trans eu (Pl.Ex.trans dZ (Pl.Ex.trans fu (Pl.Ex.trans hE20 (Pl.Ex.trans fT (Pl.Ex.trans gF (Pl.Ex.trans iH (Pl.Ex.trans gY (Pl.Ex.trans iM (Pl.Ex.trans jd (Pl.Ex.trans kR (Pl.Ex.trans jX (Pl.Ex.trans kv kY)))))))))))))))))))))))))))))) _ _ (x+y) y 30 51 (-201) 1416 (Dn.le (Dn.mk (Un.below nW (Pl.Ex.trans dh (Pl.Ex.trans bf (Pl.Ex.trans bI (Pl.Ex.trans bY (Pl.Ex.trans bM (Pl.Ex.trans ed (Pl.Ex.trans dK (Pl.Ex.trans dW (Pl.Ex.trans eu (Pl.Ex.trans dZ (Pl.Ex.trans fu (Pl.Ex.trans hE20 (Pl.Ex.trans fT (Pl.Ex.trans gF (Pl.Ex.trans iH (Pl.Ex.trans gY (Pl.Ex.trans iM (Pl.Ex.trans jd (Pl.Ex.trans kR (Pl.Ex.trans jX (Pl.Ex.trans kv kY)))))))))))))))))))))) lQ.can lQ.val lQ.sz lQ.lo lQ.hi) (by decide) (by decide) (by decide):Dn _ _ _ 30 (-201) 1416) (Dn.le (Dn.mk (Un.below gG (Pl.Ex.trans aH (Pl.Ex.trans bu (Pl.Ex.trans dh (Pl.Ex.trans bf (Pl.Ex.trans bI (Pl.Ex.trans bY (Pl.Ex.trans bM (Pl.Ex.trans ed (Pl.Ex.trans dK (Pl.Ex.trans dW (Pl.Ex.trans eu (Pl.Ex.trans dZ (Pl.Ex.trans fu (Pl.Ex.trans hE20 (Pl.Ex.trans fT (Pl.Ex.trans gF (Pl.Ex.trans iH (Pl.Ex.trans gY (Pl.Ex.trans iM (Pl.Ex.trans jd (Pl.Ex.trans kR (Pl.Ex.trans jX (Pl.Ex.trans kv kY)))))))))))))))))))))))) bH.can bH.val bH.sz bH.lo bH.hi) (by decide) (by decide) (by decide):Dn _ _ _ 30 (-201) 1416) (by decide) (by decide) (by decide) (by decide) (-202) 4040 (by decide) (by decide) (by decide) (by decide)) ?_
     rintro e w31 ⟨v88,rfl,akr,pK⟩
     obtain ⟨m89,e90,A91,c92,rfl,u93,d94⟩:=akr
     have arC:=d94.lo
     have arD:=d94.hi
     have aab:=Pl.Ex.size pK
     have Ei:=Pl.Ex.trans Cf pK
     refine ⟨_,rfl,Ei,?_⟩
     refine Pl.ah rfl rfl rfl rfl rfl (fun u X=>Pl.enters Tryz.func17 (by kernel_rfl) rfl u X) ?_
     refine Calls.mono (dR _ _ _ ((x+y)-y) x _ _ _ _ _ _ (Dn.mk u93 d94.can d94.val d94.sz d94.lo d94.hi) (Dn.mk (Un.below dS (Pl.Ex.trans aH (Pl.Ex.trans bu (Pl.Ex.trans dh (Pl.Ex.trans bf (Pl.Ex.trans bI (Pl.Ex.trans bY (Pl.Ex.trans bM (Pl.Ex.trans ed (Pl.Ex.trans dK (Pl.Ex.trans dW (Pl.Ex.trans eu (Pl.Ex.trans dZ (Pl.Ex.trans fu (Pl.Ex.trans hE20 (Pl.Ex.trans fT (Pl.Ex.trans gF (Pl.Ex.trans iH (Pl.Ex.trans gY (Pl.Ex.trans iM (Pl.Ex.trans jd (Pl.Ex.trans kR (Pl.Ex.trans jX (Pl.Ex.trans kv (Pl.Ex.trans kY pK))))))))))))))))))))))))) bz.can bz.val bz.sz bz.lo bz.hi) (by decide) (by decide)) ?_
     rintro e w32 ⟨rfl,ng⟩
     rw [decide_eq_true (show ((x+y)-y)=x from (by grind))]
     have aac:=Pl.Ex.size ng
     have qO:=Pl.Ex.trans Ei ng
     refine ⟨_,rfl,qO,?_⟩
     refine Pl.aG qO rfl ?_
     refine Pl.bT (part:=[.bool (decide (aN<0)),.slice aX (limbs (Int.natAbs aN)).length aY,.int .i64 bJ]) (fun X hX=>Pl.Cb.ex (Pl.Cb.ex aV (Pl.Ex.trans aH (Pl.Ex.trans bu (Pl.Ex.trans dh (Pl.Ex.trans bf (Pl.Ex.trans bI bY)))))) hX) rfl Tryz.underlying26 rfl (by kernel_rfl) qO rfl rfl rfl rfl rfl ?_
     refine Pl.bT (part:=[.bool (decide (aN<0)),.slice aX (limbs (Int.natAbs aN)).length aY,.int .i64 bJ]) (fun X hX=>Pl.Cb.ex (Pl.Cb.ex aV (Pl.Ex.trans aH (Pl.Ex.trans bu (Pl.Ex.trans dh (Pl.Ex.trans bf (Pl.Ex.trans bI bY)))))) hX) rfl Tryz.underlying26 rfl (by kernel_rfl) qO rfl rfl rfl rfl rfl ?_
     refine Pl.bC (.agg #[.bool false,.slice none 0 0,.int .i64 0]) qO rfl rfl rfl rfl (fun X=>by kernel_rfl) ?_
     refine Pl.ah rfl rfl rfl rfl rfl (fun u X=>Pl.enters Tryz.func24 (by kernel_rfl) rfl u X) ?_
     refine Calls.mono (rz _ _ x _ _ _ (Dn.mk (Un.below dS (Pl.Ex.trans aH (Pl.Ex.trans bu (Pl.Ex.trans dh (Pl.Ex.trans bf (Pl.Ex.trans bI (Pl.Ex.trans bY (Pl.Ex.trans bM (Pl.Ex.trans ed (Pl.Ex.trans dK (Pl.Ex.trans dW (Pl.Ex.trans eu (Pl.Ex.trans dZ (Pl.Ex.trans fu (Pl.Ex.trans hE20 (Pl.Ex.trans fT (Pl.Ex.trans gF (Pl.Ex.trans iH (Pl.Ex.trans gY (Pl.Ex.trans iM (Pl.Ex.trans jd (Pl.Ex.trans kR (Pl.Ex.trans jX (Pl.Ex.trans kv (Pl.Ex.trans kY (Pl.Ex.trans pK ng)))))))))))))))))))))))))) bz.can bz.val bz.sz bz.lo bz.hi)) ?_
     rintro e w33 ⟨v95,rfl,hv95,oI⟩
     obtain ⟨m96,e97,A98,c99,rfl,akt,QJ⟩:=hv95
     have aof:=QJ.lo
     have aog:=QJ.hi
     have adv:=Pl.Ex.size oI
     have OV:=Pl.Ex.trans qO oI
     refine ⟨_,rfl,OV,?_⟩
     refine Pl.ah rfl rfl rfl rfl rfl (fun u X=>Pl.enters Tryz.func26 (by kernel_rfl) rfl u X) ?_
     refine Calls.mono (lG _ (hg.ext (Pl.Ex.trans hE1 (Pl.Ex.trans hE2 (Pl.Ex.trans aO (Pl.Ex.trans aR (Pl.Ex.trans aP (Pl.Ex.trans aM (Pl.Ex.trans aH (Pl.Ex.trans bu (Pl.Ex.trans dh (Pl.Ex.trans bf (Pl.Ex.trans bI (Pl.Ex.trans bY (Pl.Ex.trans bM (Pl.Ex.trans ed (Pl.Ex.trans dK (Pl.Ex.trans dW (Pl.Ex.trans eu (Pl.Ex.trans dZ (Pl.Ex.trans fu (Pl.Ex.trans hE20 (Pl.Ex.trans fT (Pl.Ex.trans gF (Pl.Ex.trans iH (Pl.Ex.trans gY (Pl.Ex.trans iM (Pl.Ex.trans jd (Pl.Ex.trans kR (Pl.Ex.trans jX (Pl.Ex.trans kv (Pl.Ex.trans kY (Pl.Ex.trans pK (Pl.Ex.trans ng oI))))))))))))))))))))))))))))))))) _ _ x (-x) 8 21 (-200) 456 (Dn.le (Dn.mk (Un.below dS (Pl.Ex.trans aH (Pl.Ex.trans bu (Pl.Ex.trans dh (Pl.Ex.trans bf (Pl.Ex.trans bI (Pl.Ex.trans bY (Pl.Ex.trans bM (Pl.Ex.trans ed (Pl.Ex.trans dK (Pl.Ex.trans dW (Pl.Ex.trans eu (Pl.Ex.trans dZ (Pl.Ex.trans fu (Pl.Ex.trans hE20 (Pl.Ex.trans fT (Pl.Ex.trans gF (Pl.Ex.trans iH (Pl.Ex.trans gY (Pl.Ex.trans iM (Pl.Ex.trans jd (Pl.Ex.trans kR (Pl.Ex.trans jX (Pl.Ex.trans kv (Pl.Ex.trans kY (Pl.Ex.trans pK (Pl.Ex.trans ng oI))))))))))))))))))))))))))) bz.can bz.val bz.sz bz.lo bz.hi) (by decide) (by decide) (by decide)) (Dn.le (Dn.mk akt QJ.can QJ.val QJ.sz QJ.lo QJ.hi) (by decide) (by decide) (by decide)) (by decide) (by decide) (by decide) (by decide) (-201) 1416 (by decide) (by decide) (by decide) (by decide)) ?_
     rintro e w34 ⟨arG,rfl,hv102,qg⟩
     obtain ⟨arH,arI,arJ,arK,rfl,akv,QK⟩:=hv102
     have aoh:=QK.lo
     have aoi:=QK.hi
     have adw:=Pl.Ex.size qg
     have OW:=Pl.Ex.trans OV qg
     refine ⟨_,rfl,OW,?_⟩
     refine Pl.ah rfl rfl rfl rfl rfl (fun u X=>Pl.enters Tryz.func17 (by kernel_rfl) rfl u X) ?_
     refine Calls.mono (dR _ _ _ (x+(-x)) (0:Rat) _ _ _ _ _ _ (Dn.mk akv QK.can QK.val QK.sz QK.lo QK.hi) (Dn.zero _ 0 (Int.le_refl 0) (Int.le_refl 0)) (by decide) (by decide)) ?_
     rintro e w35 ⟨rfl,xu⟩
     rw [decide_eq_true (show (x+(-x))=(0:Rat) from (by grind))]
     have adx:=Pl.Ex.size xu
     have CE:=Pl.Ex.trans OW xu
     refine ⟨_,rfl,CE,?_⟩
     refine Pl.aG CE rfl ?_
     refine Pl.af ?_
     repeat refine Pl.ay ?_
     exact Pl.dU rfl rfl  (⟨rfl,(Pl.Ex.trans hE1 (Pl.Ex.trans hE2 (Pl.Ex.trans aO (Pl.Ex.trans aR (Pl.Ex.trans aP (Pl.Ex.trans aM (Pl.Ex.trans aH (Pl.Ex.trans bu (Pl.Ex.trans dh (Pl.Ex.trans bf (Pl.Ex.trans bI (Pl.Ex.trans bY (Pl.Ex.trans bM (Pl.Ex.trans ed (Pl.Ex.trans dK (Pl.Ex.trans dW (Pl.Ex.trans eu (Pl.Ex.trans dZ (Pl.Ex.trans fu (Pl.Ex.trans hE20 (Pl.Ex.trans fT (Pl.Ex.trans gF (Pl.Ex.trans iH (Pl.Ex.trans gY (Pl.Ex.trans iM (Pl.Ex.trans jd (Pl.Ex.trans kR (Pl.Ex.trans jX (Pl.Ex.trans kv (Pl.Ex.trans kY (Pl.Ex.trans pK (Pl.Ex.trans ng (Pl.Ex.trans oI (Pl.Ex.trans qg xu))))))))))))))))))))))))))))))))))⟩)
   refine Pl.fP 3 223 (fun l' w'=>∃ (iW:Int) (mg:Int) (iq:Option Addr) (iw:Nat) (fH:Nat) (mU:Nat),Pl.Ex w7 w'∧(Un w' (.slice iq (limbs (Int.natAbs iW)).length iw) (Int.natAbs iW))∧(Dd iW mg (x+y) 30 (-201) 1416)∧(Pl.Cb w' fH 26 [.bool false,.slice none 0 0,.int .i64 0])∧(w7.heap.size≤fH)∧(Pl.Cb w' mU 26 [.bool false,.slice none 0 0,.int .i64 0])∧(w7.heap.size≤mU)∧(fH≠mU)∧l'=[(6,.bool false),(7,.bool true),(8,.pointer (some ⟨aK,0,none⟩)),(9,.pointer (some ⟨bQ,0,none⟩)),(10,.pointer (some ⟨kC,0,none⟩)),(11,.pointer (some ⟨fH,0,none⟩)),(12,.pointer (some ⟨mU,0,none⟩)),(22,.agg #[.bool (decide (iW<0)),.slice iq (limbs (Int.natAbs iW)).length iw,.int .i64 mg]),(23,.agg #[.bool (decide (aN<0)),.slice aX (limbs (Int.natAbs aN)).length aY,.int .i64 bJ]),(24,.agg #[.bool (decide (aT<0)),.slice dB (limbs (Int.natAbs aT)).length dD,.int .i64 dA])]) ?_ fun Hu=>?_
   · rintro _ w8 ⟨iW,mg,iq,iw,fH,mU,bu,nW,lQ,fO,xL,qH,Kl,Km,rfl⟩
     have mh:=Pl.Ex.size bu
     have bD:=Pl.Ex.trans bE bu
     have Kq:=lQ.lo
     have Kr:=lQ.hi
     have uO:=Pl.Cb.lt fO
     have FY:=Pl.Cb.lt qH
     refine Pl.aZ [(false,5,223),(false,8,255),(false,9,511)] 1023 0 Pl.az (by kernel_rfl) (by kernel_rfl) (by kernel_rfl) ?_
     refine Pl.ah rfl rfl rfl rfl rfl (fun u X=>Pl.enters Tryz.func30 (by kernel_rfl) rfl u X) ?_
     refine Calls.mono (lW _ (hg.ext (Pl.Ex.trans hE1 (Pl.Ex.trans hE2 (Pl.Ex.trans aO (Pl.Ex.trans aR (Pl.Ex.trans aP (Pl.Ex.trans aM (Pl.Ex.trans aH bu)))))))) _ _ x y 8 8 (-200) 456 (Dn.le (Dn.mk (Un.below dS (Pl.Ex.trans aH bu)) bz.can bz.val bz.sz bz.lo bz.hi) (by decide) (by decide) (by decide):Dn _ _ _ 8 (-200) 456) (Dn.le (Dn.mk (Un.below gG (Pl.Ex.trans aH bu)) bH.can bH.val bH.sz bH.lo bH.hi) (by decide) (by decide) (by decide):Dn _ _ _ 8 (-200) 456) (by decide) (by decide) (by decide) (by decide) (-400) 1424 (by decide) (by decide) (by decide) (by decide)) ?_
     rintro e w9 ⟨v4,rfl,hv4,dh⟩
     obtain ⟨m5,e6,A7,c8,rfl,u9,fC⟩:=hv4
     have sW:=fC.lo
     have sZ:=fC.hi
     have pG:=Pl.Ex.size dh
     have bK:=Pl.Ex.trans bD dh
     refine ⟨_,rfl,bK,?_⟩
     refine Pl.bg (new:=[.bool (decide (iW<0)),.slice iq (limbs (Int.natAbs iW)).length iw,.int .i64 mg]) (Pl.Cb.ex fO dh) (by kernel_rfl) rfl (by simp [Value.oneCell']) rfl rfl rfl rfl rfl rfl (fun Y hY=>Pl.Ex.xs bK hY (by omega)) ?_
     intro qD eU om
     have bf:=Pl.Ex.xs (Pl.Ex.trans bu dh) eU (by omega)
     have mD:=Pl.Xs.size eU
     have gK:=Pl.Ex.xs bK eU (by omega)
     have l5:=Pl.Cb.xs (Pl.Cb.ex qH dh) eU (by simp;omega)
     refine Pl.bg (new:=[.bool (decide (m5<0)),.slice A7 (limbs (Int.natAbs m5)).length c8,.int .i64 e6]) l5 (by kernel_rfl) rfl (by simp [Value.oneCell']) rfl rfl rfl rfl rfl rfl (fun Y hY=>Pl.Ex.xs gK hY (by omega)) ?_
     intro uV jI xM
     have bI:=Pl.Ex.xs bf jI (by omega)
     have qx:=Pl.Xs.size jI
     have iT:=Pl.Ex.xs gK jI (by omega)
     have rQ:=Pl.Cb.xs om jI (by simp;omega)
     refine Pl.af ?_
     have k11:=Un.xs (Un.below nW dh) eU (Pl.Cb.ex fO dh) (by simp)
     have k12:=Un.xs k11 jI l5 (by simp)
     have k13:=Un.xs u9 eU (Pl.Cb.ex fO dh) (by simp)
     have k14:=Un.xs k13 jI l5 (by simp)
     refine Pl.aW [(6,.bool false),(7,.bool true),(8,.pointer (some ⟨aK,0,none⟩)),(9,.pointer (some ⟨bQ,0,none⟩)),(10,.pointer (some ⟨kC,0,none⟩)),(11,.pointer (some ⟨fH,0,none⟩)),(12,.pointer (some ⟨mU,0,none⟩))] (Pl.aa rfl (Pl.aa rfl (Pl.aa rfl (Pl.aa rfl (Pl.aa rfl (Pl.aa rfl (Pl.aa rfl Pl.aA))))))) ?_
     exact xY _ _ ⟨iW,mg,iq,iw,m5,e6,A7,c8,fH,mU,bI,k12,lQ,k14,fC,rQ,(by omega),xM,(by omega),(by omega),rfl⟩
   refine Pl.fP 3 191 (fun l' w'=>∃ (iW:Int) (mg:Int) (iq:Option Addr) (iw:Nat) (oq:Int) (vJ:Int) (nO:Option Addr) (nP:Nat) (fH:Nat),Pl.Ex w7 w'∧(Un w' (.slice iq (limbs (Int.natAbs iW)).length iw) (Int.natAbs iW))∧(Dd iW mg (x+y) 30 (-201) 1416)∧(Un w' (.slice nO (limbs (Int.natAbs oq)).length nP) (Int.natAbs oq))∧(Dd oq vJ (x*y) 16 (-400) 1424)∧(Pl.Cb w' fH 26 [.bool false,.slice none 0 0,.int .i64 0])∧(w7.heap.size≤fH)∧l'=[(6,.bool false),(7,.bool true),(8,.pointer (some ⟨aK,0,none⟩)),(9,.pointer (some ⟨bQ,0,none⟩)),(10,.pointer (some ⟨kC,0,none⟩)),(12,.pointer (some ⟨fH,0,none⟩)),(22,.agg #[.bool (decide (iW<0)),.slice iq (limbs (Int.natAbs iW)).length iw,.int .i64 mg]),(25,.agg #[.bool (decide (oq<0)),.slice nO (limbs (Int.natAbs oq)).length nP,.int .i64 vJ])]) ?_ fun Kv=>?_
   · rintro _ w8 ⟨iW,mg,iq,iw,oq,vJ,nO,nP,fH,bu,nW,lQ,yg,tT,fO,xL,rfl⟩
     have mh:=Pl.Ex.size bu
     have bD:=Pl.Ex.trans bE bu
     have Kq:=lQ.lo
     have Kr:=lQ.hi
     have VT:=tT.lo
     have VU:=tT.hi
     have uO:=Pl.Cb.lt fO
     refine Pl.aZ [(false,6,191),(false,8,255),(false,9,511)] 1023 0 Pl.az (by kernel_rfl) (by kernel_rfl) (by kernel_rfl) ?_
     refine Pl.aU (z:=.agg #[.bool false,.slice none 0 0,.int .i64 0]) (by kernel_rfl) rfl rfl rfl rfl (fun Y hY=>Pl.Ex.trans bD hY) ?_
     intro N4 w9 dh iG aF
     have fE:=Pl.Cb.lt aF
     have pG:=Pl.Ex.size dh
     replace aF:Pl.Cb w9 N4 26 [.bool false,.slice none 0 0,.int .i64 0]:=aF
     have bK:=Pl.Ex.trans bD dh
     refine Pl.bg (new:=[.bool (decide (iW<0)),.slice iq (limbs (Int.natAbs iW)).length iw,.int .i64 mg]) aF (by kernel_rfl) rfl (by simp [Value.oneCell']) rfl rfl rfl rfl rfl rfl (fun Y hY=>Pl.Ex.xs bK hY (by omega)) ?_
     intro qD eU fB
     have bf:=Pl.Ex.xs dh eU (by omega)
     have mD:=Pl.Xs.size eU
     have gK:=Pl.Ex.xs bK eU (by omega)
     refine Pl.bg (new:=[.bool (decide (oq<0)),.slice nO (limbs (Int.natAbs oq)).length nP,.int .i64 vJ]) (Pl.Cb.ex fO bf) (by kernel_rfl) rfl (by simp [Value.oneCell']) rfl rfl rfl rfl rfl rfl (fun Y hY=>Pl.Ex.xs gK hY (by omega)) ?_
     intro uV jI om
     have bI:=Pl.Ex.xs (Pl.Ex.trans bu bf) jI (by omega)
     have qx:=Pl.Xs.size jI
     have iT:=Pl.Ex.xs gK jI (by omega)
     have jZ:=Pl.Cb.xs fB jI (by simp;omega)
     refine Pl.af ?_
     have k5:=Un.xs (Un.below nW bf) jI (Pl.Cb.ex fO bf) (by simp)
     have k6:=Un.xs (Un.below yg bf) jI (Pl.Cb.ex fO bf) (by simp)
     refine Pl.aW [(6,.bool false),(7,.bool true),(8,.pointer (some ⟨aK,0,none⟩)),(9,.pointer (some ⟨bQ,0,none⟩)),(10,.pointer (some ⟨kC,0,none⟩)),(11,.pointer (some ⟨N4,0,none⟩)),(12,.pointer (some ⟨fH,0,none⟩))] (Pl.aa rfl (Pl.aa rfl (Pl.aa rfl (Pl.aa rfl (Pl.aa rfl (Pl.aa rfl (Pl.aa rfl Pl.aA))))))) ?_
     exact xY _ _ ⟨iW,mg,iq,iw,oq,vJ,nO,nP,N4,fH,bI,k5,lQ,k6,tT,jZ,(by omega),om,(by omega),(by omega),rfl⟩
   refine Pl.fP 3 127 (fun l' w'=>∃ (iW:Int) (mg:Int) (iq:Option Addr) (iw:Nat) (oq:Int) (vJ:Int) (nO:Option Addr) (nP:Nat) (fH:Nat),Pl.Ex w7 w'∧(Un w' (.slice iq (limbs (Int.natAbs iW)).length iw) (Int.natAbs iW))∧(Dd iW mg (x+y) 30 (-201) 1416)∧(Un w' (.slice nO (limbs (Int.natAbs oq)).length nP) (Int.natAbs oq))∧(Dd oq vJ (x*y) 16 (-400) 1424)∧(Pl.Cb w' fH 26 [.bool false,.slice none 0 0,.int .i64 0])∧(w7.heap.size≤fH)∧l'=[(6,.bool false),(7,.bool true),(8,.pointer (some ⟨aK,0,none⟩)),(9,.pointer (some ⟨bQ,0,none⟩)),(10,.pointer (some ⟨kC,0,none⟩)),(11,.pointer (some ⟨fH,0,none⟩)),(22,.agg #[.bool (decide (iW<0)),.slice iq (limbs (Int.natAbs iW)).length iw,.int .i64 mg]),(25,.agg #[.bool (decide (oq<0)),.slice nO (limbs (Int.natAbs oq)).length nP,.int .i64 vJ])]) ?_ fun Kw=>?_
   · rintro _ w8 ⟨iW,mg,iq,iw,oq,vJ,nO,nP,fH,bu,nW,lQ,yg,tT,fO,xL,rfl⟩
     have mh:=Pl.Ex.size bu
     have bD:=Pl.Ex.trans bE bu
     have Kq:=lQ.lo
     have Kr:=lQ.hi
     have VT:=tT.lo
     have VU:=tT.hi
     have uO:=Pl.Cb.lt fO
     refine Pl.aZ [(false,7,127),(false,8,255),(false,9,511)] 1023 0 Pl.az (by kernel_rfl) (by kernel_rfl) (by kernel_rfl) ?_
     refine Pl.aU (z:=.agg #[.bool false,.slice none 0 0,.int .i64 0]) (by kernel_rfl) rfl rfl rfl rfl (fun Y hY=>Pl.Ex.trans bD hY) ?_
     intro N4 w9 dh iG aF
     have fE:=Pl.Cb.lt aF
     have pG:=Pl.Ex.size dh
     replace aF:Pl.Cb w9 N4 26 [.bool false,.slice none 0 0,.int .i64 0]:=aF
     have bK:=Pl.Ex.trans bD dh
     refine Pl.bg (new:=[.bool (decide (iW<0)),.slice iq (limbs (Int.natAbs iW)).length iw,.int .i64 mg]) (Pl.Cb.ex fO dh) (by kernel_rfl) rfl (by simp [Value.oneCell']) rfl rfl rfl rfl rfl rfl (fun Y hY=>Pl.Ex.xs bK hY (by omega)) ?_
     intro qD eU om
     have bf:=Pl.Ex.xs (Pl.Ex.trans bu dh) eU (by omega)
     have mD:=Pl.Xs.size eU
     have gK:=Pl.Ex.xs bK eU (by omega)
     have fB:=Pl.Cb.xs aF eU (by simp;omega)
     refine Pl.bg (new:=[.bool (decide (oq<0)),.slice nO (limbs (Int.natAbs oq)).length nP,.int .i64 vJ]) fB (by kernel_rfl) rfl (by simp [Value.oneCell']) rfl rfl rfl rfl rfl rfl (fun Y hY=>Pl.Ex.xs gK hY (by omega)) ?_
     intro uV jI jZ
     have bI:=Pl.Ex.xs bf jI (by omega)
     have qx:=Pl.Xs.size jI
     have iT:=Pl.Ex.xs gK jI (by omega)
     have rQ:=Pl.Cb.xs om jI (by simp;omega)
     refine Pl.af ?_
     have k5:=Un.xs (Un.below nW dh) eU (Pl.Cb.ex fO dh) (by simp)
     have k6:=Un.xs k5 jI fB (by simp)
     have k7:=Un.xs (Un.below yg dh) eU (Pl.Cb.ex fO dh) (by simp)
     have k8:=Un.xs k7 jI fB (by simp)
     refine Pl.aW [(6,.bool false),(7,.bool true),(8,.pointer (some ⟨aK,0,none⟩)),(9,.pointer (some ⟨bQ,0,none⟩)),(10,.pointer (some ⟨kC,0,none⟩)),(11,.pointer (some ⟨fH,0,none⟩)),(12,.pointer (some ⟨N4,0,none⟩))] (Pl.aa rfl (Pl.aa rfl (Pl.aa rfl (Pl.aa rfl (Pl.aa rfl (Pl.aa rfl (Pl.aa rfl Pl.aA))))))) ?_
     exact xY _ _ ⟨iW,mg,iq,iw,oq,vJ,nO,nP,fH,N4,bI,k6,lQ,k8,tT,rQ,(by omega),jZ,(by omega),(by omega),rfl⟩
   refine Pl.fP 4 219 (fun l' w'=>∃ (fH:Nat) (mU:Nat),Pl.Ex w7 w'∧(Pl.Cb w' fH 26 [.bool false,.slice none 0 0,.int .i64 0])∧(w7.heap.size≤fH)∧(Pl.Cb w' mU 26 [.bool false,.slice none 0 0,.int .i64 0])∧(w7.heap.size≤mU)∧(fH≠mU)∧l'=[(6,.bool false),(7,.bool true),(8,.pointer (some ⟨aK,0,none⟩)),(9,.pointer (some ⟨bQ,0,none⟩)),(10,.pointer (some ⟨kC,0,none⟩)),(11,.pointer (some ⟨fH,0,none⟩)),(12,.pointer (some ⟨mU,0,none⟩)),(20,.agg #[.bool (decide (aN<0)),.slice aX (limbs (Int.natAbs aN)).length aY,.int .i64 bJ]),(21,.agg #[.bool (decide (aT<0)),.slice dB (limbs (Int.natAbs aT)).length dD,.int .i64 dA]),(23,.agg #[.bool (decide (aN<0)),.slice aX (limbs (Int.natAbs aN)).length aY,.int .i64 bJ]),(24,.agg #[.bool (decide (aT<0)),.slice dB (limbs (Int.natAbs aT)).length dD,.int .i64 dA])]) ?_ fun VV=>?_
   · rintro _ w8 ⟨fH,mU,bu,fO,xL,qH,Kl,Km,rfl⟩
     have mh:=Pl.Ex.size bu
     have bD:=Pl.Ex.trans bE bu
     have uO:=Pl.Cb.lt fO
     have FY:=Pl.Cb.lt qH
     refine Pl.aZ [(false,2,219),(false,5,223),(false,8,255),(false,9,511)] 1023 0 Pl.az (by kernel_rfl) (by kernel_rfl) (by kernel_rfl) ?_
     refine Pl.ah rfl rfl rfl rfl rfl (fun u X=>Pl.enters Tryz.func26 (by kernel_rfl) rfl u X) ?_
     refine Calls.mono (lG _ (hg.ext (Pl.Ex.trans hE1 (Pl.Ex.trans hE2 (Pl.Ex.trans aO (Pl.Ex.trans aR (Pl.Ex.trans aP (Pl.Ex.trans aM (Pl.Ex.trans aH bu)))))))) _ _ x y 8 21 (-200) 456 (Dn.le (Dn.mk (Un.below dS (Pl.Ex.trans aH bu)) bz.can bz.val bz.sz bz.lo bz.hi) (by decide) (by decide) (by decide)) (Dn.le (Dn.mk (Un.below gG (Pl.Ex.trans aH bu)) bH.can bH.val bH.sz bH.lo bH.hi) (by decide) (by decide) (by decide)) (by decide) (by decide) (by decide) (by decide) (-201) 1416 (by decide) (by decide) (by decide) (by decide)) ?_
     rintro e w9 ⟨v4,rfl,hv4,dh⟩
     obtain ⟨m5,e6,A7,c8,rfl,u9,fC⟩:=hv4
     have sW:=fC.lo
     have sZ:=fC.hi
     have pG:=Pl.Ex.size dh
     have bK:=Pl.Ex.trans bD dh
     refine ⟨_,rfl,bK,?_⟩
     refine Pl.ah rfl rfl rfl rfl rfl (fun u X=>Pl.enters Tryz.func30 (by kernel_rfl) rfl u X) ?_
     refine Calls.mono (lW _ (hg.ext (Pl.Ex.trans hE1 (Pl.Ex.trans hE2 (Pl.Ex.trans aO (Pl.Ex.trans aR (Pl.Ex.trans aP (Pl.Ex.trans aM (Pl.Ex.trans aH (Pl.Ex.trans bu dh))))))))) _ _ x y 8 8 (-200) 456 (Dn.le (Dn.mk (Un.below dS (Pl.Ex.trans aH (Pl.Ex.trans bu dh))) bz.can bz.val bz.sz bz.lo bz.hi) (by decide) (by decide) (by decide):Dn _ _ _ 8 (-200) 456) (Dn.le (Dn.mk (Un.below gG (Pl.Ex.trans aH (Pl.Ex.trans bu dh))) bH.can bH.val bH.sz bH.lo bH.hi) (by decide) (by decide) (by decide):Dn _ _ _ 8 (-200) 456) (by decide) (by decide) (by decide) (by decide) (-400) 1424 (by decide) (by decide) (by decide) (by decide)) ?_
     rintro e qD ⟨v11,rfl,kL,bf⟩
     obtain ⟨m12,e13,qK,c15,rfl,u16,kG⟩:=kL
     have LF:=kG.lo
     have LG:=kG.hi
     have mD:=Pl.Ex.size bf
     have gK:=Pl.Ex.trans bK bf
     refine ⟨_,rfl,gK,?_⟩
     refine Pl.bg (new:=[.bool (decide (m5<0)),.slice A7 (limbs (Int.natAbs m5)).length c8,.int .i64 e6]) (Pl.Cb.ex fO (Pl.Ex.trans dh bf)) (by kernel_rfl) rfl (by simp [Value.oneCell']) rfl rfl rfl rfl rfl rfl (fun Y hY=>Pl.Ex.xs gK hY (by omega)) ?_
     intro uV jI om
     have bI:=Pl.Ex.xs (Pl.Ex.trans bu (Pl.Ex.trans dh bf)) jI (by omega)
     have qx:=Pl.Xs.size jI
     have iT:=Pl.Ex.xs gK jI (by omega)
     have l5:=Pl.Cb.xs (Pl.Cb.ex qH (Pl.Ex.trans dh bf)) jI (by simp;omega)
     refine Pl.bg (new:=[.bool (decide (m12<0)),.slice qK (limbs (Int.natAbs m12)).length c15,.int .i64 e13]) l5 (by kernel_rfl) rfl (by simp [Value.oneCell']) rfl rfl rfl rfl rfl rfl (fun Y hY=>Pl.Ex.xs iT hY (by omega)) ?_
     intro yu fD xM
     have bY:=Pl.Ex.xs bI fD (by omega)
     have qQ:=Pl.Xs.size fD
     have jl:=Pl.Ex.xs iT fD (by omega)
     have rQ:=Pl.Cb.xs om fD (by simp;omega)
     refine Pl.af ?_
     have k18:=Un.xs (Un.below u9 bf) jI (Pl.Cb.ex fO (Pl.Ex.trans dh bf)) (by simp)
     have k19:=Un.xs k18 fD l5 (by simp)
     have k20:=Un.xs u16 jI (Pl.Cb.ex fO (Pl.Ex.trans dh bf)) (by simp)
     have k21:=Un.xs k20 fD l5 (by simp)
     refine Pl.aW [(6,.bool false),(7,.bool true),(8,.pointer (some ⟨aK,0,none⟩)),(9,.pointer (some ⟨bQ,0,none⟩)),(10,.pointer (some ⟨kC,0,none⟩)),(11,.pointer (some ⟨fH,0,none⟩)),(12,.pointer (some ⟨mU,0,none⟩))] (Pl.aa rfl (Pl.aa rfl (Pl.aa rfl (Pl.aa rfl (Pl.aa rfl (Pl.aa rfl (Pl.aa rfl Pl.aA))))))) ?_
     exact xY _ _ ⟨m5,e6,A7,c8,m12,e13,qK,c15,fH,mU,bY,k19,fC,k21,kG,rQ,(by omega),xM,(by omega),(by omega),rfl⟩
   refine Pl.fP 4 159 (fun l' w'=>∃ (iW:Int) (mg:Int) (iq:Option Addr) (iw:Nat) (fH:Nat),Pl.Ex w7 w'∧(Un w' (.slice iq (limbs (Int.natAbs iW)).length iw) (Int.natAbs iW))∧(Dd iW mg (x+y) 30 (-201) 1416)∧(Pl.Cb w' fH 26 [.bool false,.slice none 0 0,.int .i64 0])∧(w7.heap.size≤fH)∧l'=[(6,.bool false),(7,.bool true),(8,.pointer (some ⟨aK,0,none⟩)),(9,.pointer (some ⟨bQ,0,none⟩)),(10,.pointer (some ⟨kC,0,none⟩)),(12,.pointer (some ⟨fH,0,none⟩)),(22,.agg #[.bool (decide (iW<0)),.slice iq (limbs (Int.natAbs iW)).length iw,.int .i64 mg]),(23,.agg #[.bool (decide (aN<0)),.slice aX (limbs (Int.natAbs aN)).length aY,.int .i64 bJ]),(24,.agg #[.bool (decide (aT<0)),.slice dB (limbs (Int.natAbs aT)).length dD,.int .i64 dA])]) ?_ fun Ky=>?_
   · rintro _ w8 ⟨iW,mg,iq,iw,fH,bu,nW,lQ,fO,xL,rfl⟩
     have mh:=Pl.Ex.size bu
     have bD:=Pl.Ex.trans bE bu
     have Kq:=lQ.lo
     have Kr:=lQ.hi
     have uO:=Pl.Cb.lt fO
     refine Pl.cB [5,6] 3 (by kernel_rfl) (by kernel_rfl) (by kernel_rfl) (Pl.aj ?_ (Pl.aj ?_ Pl.aJ))
     · refine Pl.ah rfl rfl rfl rfl rfl (fun u X=>Pl.enters Tryz.func30 (by kernel_rfl) rfl u X) ?_
       refine Calls.mono (lW _ (hg.ext (Pl.Ex.trans hE1 (Pl.Ex.trans hE2 (Pl.Ex.trans aO (Pl.Ex.trans aR (Pl.Ex.trans aP (Pl.Ex.trans aM (Pl.Ex.trans aH bu)))))))) _ _ x y 8 8 (-200) 456 (Dn.le (Dn.mk (Un.below dS (Pl.Ex.trans aH bu)) bz.can bz.val bz.sz bz.lo bz.hi) (by decide) (by decide) (by decide):Dn _ _ _ 8 (-200) 456) (Dn.le (Dn.mk (Un.below gG (Pl.Ex.trans aH bu)) bH.can bH.val bH.sz bH.lo bH.hi) (by decide) (by decide) (by decide):Dn _ _ _ 8 (-200) 456) (by decide) (by decide) (by decide) (by decide) (-400) 1424 (by decide) (by decide) (by decide) (by decide)) ?_
       rintro e w9 ⟨v4,rfl,hv4,dh⟩
       obtain ⟨m5,e6,A7,c8,rfl,u9,fC⟩:=hv4
       have sW:=fC.lo
       have sZ:=fC.hi
       have pG:=Pl.Ex.size dh
       have bK:=Pl.Ex.trans bD dh
       refine ⟨_,rfl,bK,?_⟩
       refine Pl.af ?_
       refine Pl.aW [(6,.bool false),(7,.bool true),(8,.pointer (some ⟨aK,0,none⟩)),(9,.pointer (some ⟨bQ,0,none⟩)),(10,.pointer (some ⟨kC,0,none⟩)),(12,.pointer (some ⟨fH,0,none⟩)),(22,.agg #[.bool (decide (iW<0)),.slice iq (limbs (Int.natAbs iW)).length iw,.int .i64 mg]),(25,.agg #[.bool (decide (m5<0)),.slice A7 (limbs (Int.natAbs m5)).length c8,.int .i64 e6])] (Pl.aa rfl (Pl.aa rfl (Pl.aa rfl (Pl.aa rfl (Pl.aa rfl (Pl.aa rfl (Pl.aa rfl (Pl.aa rfl Pl.aA)))))))) ?_
       exact Kv _ _ ⟨iW,mg,iq,iw,m5,e6,A7,c8,fH,(Pl.Ex.trans bu dh),(Un.below nW dh),lQ,u9,fC,(Pl.Cb.ex fO dh),(by omega),rfl⟩
     · refine Pl.aU (z:=.agg #[.bool false,.slice none 0 0,.int .i64 0]) (by kernel_rfl) rfl rfl rfl rfl (fun Y hY=>Pl.Ex.trans bD hY) ?_
       intro N4 w9 dh iG aF
       have fE:=Pl.Cb.lt aF
       have pG:=Pl.Ex.size dh
       replace aF:Pl.Cb w9 N4 26 [.bool false,.slice none 0 0,.int .i64 0]:=aF
       have bK:=Pl.Ex.trans bD dh
       refine Pl.af ?_
       refine Pl.aW [(6,.bool false),(7,.bool true),(8,.pointer (some ⟨aK,0,none⟩)),(9,.pointer (some ⟨bQ,0,none⟩)),(10,.pointer (some ⟨kC,0,none⟩)),(11,.pointer (some ⟨N4,0,none⟩)),(12,.pointer (some ⟨fH,0,none⟩)),(22,.agg #[.bool (decide (iW<0)),.slice iq (limbs (Int.natAbs iW)).length iw,.int .i64 mg]),(23,.agg #[.bool (decide (aN<0)),.slice aX (limbs (Int.natAbs aN)).length aY,.int .i64 bJ]),(24,.agg #[.bool (decide (aT<0)),.slice dB (limbs (Int.natAbs aT)).length dD,.int .i64 dA])] (Pl.aa rfl (Pl.aa rfl (Pl.aa rfl (Pl.aa rfl (Pl.aa rfl (Pl.aa rfl (Pl.aa rfl (Pl.aa rfl (Pl.aa rfl (Pl.aa rfl Pl.aA)))))))))) ?_
       exact Hu _ _ ⟨iW,mg,iq,iw,N4,fH,(Pl.Ex.trans bu dh),(Un.below nW dh),lQ,aF,(by omega),(Pl.Cb.ex fO dh),(by omega),(by omega),rfl⟩
   refine Pl.fP 4 95 (fun l' w'=>∃ (iW:Int) (mg:Int) (iq:Option Addr) (iw:Nat) (fH:Nat),Pl.Ex w7 w'∧(Un w' (.slice iq (limbs (Int.natAbs iW)).length iw) (Int.natAbs iW))∧(Dd iW mg (x+y) 30 (-201) 1416)∧(Pl.Cb w' fH 26 [.bool false,.slice none 0 0,.int .i64 0])∧(w7.heap.size≤fH)∧l'=[(6,.bool false),(7,.bool true),(8,.pointer (some ⟨aK,0,none⟩)),(9,.pointer (some ⟨bQ,0,none⟩)),(10,.pointer (some ⟨kC,0,none⟩)),(11,.pointer (some ⟨fH,0,none⟩)),(22,.agg #[.bool (decide (iW<0)),.slice iq (limbs (Int.natAbs iW)).length iw,.int .i64 mg]),(23,.agg #[.bool (decide (aN<0)),.slice aX (limbs (Int.natAbs aN)).length aY,.int .i64 bJ]),(24,.agg #[.bool (decide (aT<0)),.slice dB (limbs (Int.natAbs aT)).length dD,.int .i64 dA])]) ?_ fun OX=>?_
   · rintro _ w8 ⟨iW,mg,iq,iw,fH,bu,nW,lQ,fO,xL,rfl⟩
     have mh:=Pl.Ex.size bu
     have bD:=Pl.Ex.trans bE bu
     have Kq:=lQ.lo
     have Kr:=lQ.hi
     have uO:=Pl.Cb.lt fO
     refine Pl.cB [5,7] 3 (by kernel_rfl) (by kernel_rfl) (by kernel_rfl) (Pl.aj ?_ (Pl.aj ?_ Pl.aJ))
     · refine Pl.ah rfl rfl rfl rfl rfl (fun u X=>Pl.enters Tryz.func30 (by kernel_rfl) rfl u X) ?_
       refine Calls.mono (lW _ (hg.ext (Pl.Ex.trans hE1 (Pl.Ex.trans hE2 (Pl.Ex.trans aO (Pl.Ex.trans aR (Pl.Ex.trans aP (Pl.Ex.trans aM (Pl.Ex.trans aH bu)))))))) _ _ x y 8 8 (-200) 456 (Dn.le (Dn.mk (Un.below dS (Pl.Ex.trans aH bu)) bz.can bz.val bz.sz bz.lo bz.hi) (by decide) (by decide) (by decide):Dn _ _ _ 8 (-200) 456) (Dn.le (Dn.mk (Un.below gG (Pl.Ex.trans aH bu)) bH.can bH.val bH.sz bH.lo bH.hi) (by decide) (by decide) (by decide):Dn _ _ _ 8 (-200) 456) (by decide) (by decide) (by decide) (by decide) (-400) 1424 (by decide) (by decide) (by decide) (by decide)) ?_
       rintro e w9 ⟨v4,rfl,hv4,dh⟩
       obtain ⟨m5,e6,A7,c8,rfl,u9,fC⟩:=hv4
       have sW:=fC.lo
       have sZ:=fC.hi
       have pG:=Pl.Ex.size dh
       have bK:=Pl.Ex.trans bD dh
       refine ⟨_,rfl,bK,?_⟩
       refine Pl.af ?_
       refine Pl.aW [(6,.bool false),(7,.bool true),(8,.pointer (some ⟨aK,0,none⟩)),(9,.pointer (some ⟨bQ,0,none⟩)),(10,.pointer (some ⟨kC,0,none⟩)),(11,.pointer (some ⟨fH,0,none⟩)),(22,.agg #[.bool (decide (iW<0)),.slice iq (limbs (Int.natAbs iW)).length iw,.int .i64 mg]),(25,.agg #[.bool (decide (m5<0)),.slice A7 (limbs (Int.natAbs m5)).length c8,.int .i64 e6])] (Pl.aa rfl (Pl.aa rfl (Pl.aa rfl (Pl.aa rfl (Pl.aa rfl (Pl.aa rfl (Pl.aa rfl (Pl.aa rfl Pl.aA)))))))) ?_
       exact Kw _ _ ⟨iW,mg,iq,iw,m5,e6,A7,c8,fH,(Pl.Ex.trans bu dh),(Un.below nW dh),lQ,u9,fC,(Pl.Cb.ex fO dh),(by omega),rfl⟩
     · refine Pl.aU (z:=.agg #[.bool false,.slice none 0 0,.int .i64 0]) (by kernel_rfl) rfl rfl rfl rfl (fun Y hY=>Pl.Ex.trans bD hY) ?_
       intro N4 w9 dh iG aF
       have fE:=Pl.Cb.lt aF
       have pG:=Pl.Ex.size dh
       replace aF:Pl.Cb w9 N4 26 [.bool false,.slice none 0 0,.int .i64 0]:=aF
       have bK:=Pl.Ex.trans bD dh
       refine Pl.af ?_
       refine Pl.aW [(6,.bool false),(7,.bool true),(8,.pointer (some ⟨aK,0,none⟩)),(9,.pointer (some ⟨bQ,0,none⟩)),(10,.pointer (some ⟨kC,0,none⟩)),(11,.pointer (some ⟨fH,0,none⟩)),(12,.pointer (some ⟨N4,0,none⟩)),(22,.agg #[.bool (decide (iW<0)),.slice iq (limbs (Int.natAbs iW)).length iw,.int .i64 mg]),(23,.agg #[.bool (decide (aN<0)),.slice aX (limbs (Int.natAbs aN)).length aY,.int .i64 bJ]),(24,.agg #[.bool (decide (aT<0)),.slice dB (limbs (Int.natAbs aT)).length dD,.int .i64 dA])] (Pl.aa rfl (Pl.aa rfl (Pl.aa rfl (Pl.aa rfl (Pl.aa rfl (Pl.aa rfl (Pl.aa rfl (Pl.aa rfl (Pl.aa rfl (Pl.aa rfl Pl.aA)))))))))) ?_
       exact Hu _ _ ⟨iW,mg,iq,iw,fH,N4,(Pl.Ex.trans bu dh),(Un.below nW dh),lQ,(Pl.Cb.ex fO dh),(by omega),aF,(by omega),(by omega),rfl⟩
   refine Pl.aZ [(true,0,0),(true,1,1),(true,3,3),(true,4,11)] 27 6 Pl.az (by kernel_rfl) (by kernel_rfl) (by kernel_rfl) ?_
   refine Pl.bT (part:=[.bool (decide (aN<0)),.slice aX (limbs (Int.natAbs aN)).length aY,.int .i64 bJ]) (fun X hX=>Pl.Cb.ex aV hX) rfl Tryz.underlying26 rfl (by kernel_rfl) bE rfl rfl rfl rfl rfl ?_
   refine Pl.bT (part:=[.bool (decide (aT<0)),.slice dB (limbs (Int.natAbs aT)).length dD,.int .i64 dA]) (fun X hX=>Pl.Cb.ex dV hX) rfl Tryz.underlying26 rfl (by kernel_rfl) bE rfl rfl rfl rfl rfl ?_
   refine Pl.bT (part:=[.bool (decide (aN<0)),.slice aX (limbs (Int.natAbs aN)).length aY,.int .i64 bJ]) (fun X hX=>Pl.Cb.ex aV hX) rfl Tryz.underlying26 rfl (by kernel_rfl) bE rfl rfl rfl rfl rfl ?_
   refine Pl.bT (part:=[.bool (decide (aT<0)),.slice dB (limbs (Int.natAbs aT)).length dD,.int .i64 dA]) (fun X hX=>Pl.Cb.ex dV hX) rfl Tryz.underlying26 rfl (by kernel_rfl) bE rfl rfl rfl rfl rfl ?_
   refine Pl.af ?_
   refine Pl.cB [2,6,7] 5 (by kernel_rfl) (by kernel_rfl) (by kernel_rfl) (Pl.aj ?_ (Pl.aj ?_ (Pl.aj ?_ Pl.aJ)))
   · refine Pl.ah rfl rfl rfl rfl rfl (fun u X=>Pl.enters Tryz.func26 (by kernel_rfl) rfl u X) ?_
     refine Calls.mono (lG _ (hg.ext (Pl.Ex.trans hE1 (Pl.Ex.trans hE2 (Pl.Ex.trans aO (Pl.Ex.trans aR (Pl.Ex.trans aP (Pl.Ex.trans aM aH))))))) _ _ x y 8 21 (-200) 456 (Dn.le (Dn.mk (Un.below dS aH) bz.can bz.val bz.sz bz.lo bz.hi) (by decide) (by decide) (by decide)) (Dn.le (Dn.mk (Un.below gG aH) bH.can bH.val bH.sz bH.lo bH.hi) (by decide) (by decide) (by decide)) (by decide) (by decide) (by decide) (by decide) (-201) 1416 (by decide) (by decide) (by decide) (by decide)) ?_
     rintro e w8 ⟨v4,rfl,hv4,bu⟩
     obtain ⟨m5,e6,A7,c8,rfl,u9,fC⟩:=hv4
     have sW:=fC.lo
     have sZ:=fC.hi
     have mh:=Pl.Ex.size bu
     have bD:=Pl.Ex.trans bE bu
     refine ⟨_,rfl,bD,?_⟩
     refine Pl.af ?_
     refine Pl.cB [5,6,7] 4 (by kernel_rfl) (by kernel_rfl) (by kernel_rfl) (Pl.aj ?_ (Pl.aj ?_ (Pl.aj ?_ Pl.aJ)))
     · refine Pl.ah rfl rfl rfl rfl rfl (fun u X=>Pl.enters Tryz.func30 (by kernel_rfl) rfl u X) ?_
       refine Calls.mono (lW _ (hg.ext (Pl.Ex.trans hE1 (Pl.Ex.trans hE2 (Pl.Ex.trans aO (Pl.Ex.trans aR (Pl.Ex.trans aP (Pl.Ex.trans aM (Pl.Ex.trans aH bu)))))))) _ _ x y 8 8 (-200) 456 (Dn.le (Dn.mk (Un.below dS (Pl.Ex.trans aH bu)) bz.can bz.val bz.sz bz.lo bz.hi) (by decide) (by decide) (by decide):Dn _ _ _ 8 (-200) 456) (Dn.le (Dn.mk (Un.below gG (Pl.Ex.trans aH bu)) bH.can bH.val bH.sz bH.lo bH.hi) (by decide) (by decide) (by decide):Dn _ _ _ 8 (-200) 456) (by decide) (by decide) (by decide) (by decide) (-400) 1424 (by decide) (by decide) (by decide) (by decide)) ?_
       rintro e w9 ⟨v11,rfl,kL,dh⟩
       obtain ⟨m12,e13,qK,c15,rfl,u16,kG⟩:=kL
       have LF:=kG.lo
       have LG:=kG.hi
       have pG:=Pl.Ex.size dh
       have bK:=Pl.Ex.trans bD dh
       refine ⟨_,rfl,bK,?_⟩
       refine Pl.af ?_
       refine Pl.cB [6,7] 3 (by kernel_rfl) (by kernel_rfl) (by kernel_rfl) (Pl.aj ?_ (Pl.aj ?_ Pl.aJ))
       · refine Pl.aU (z:=.agg #[.bool false,.slice none 0 0,.int .i64 0]) (by kernel_rfl) rfl rfl rfl rfl (fun Y hY=>Pl.Ex.trans bK hY) ?_
         intro Hq qD bf Dk iY
         have IJ:=Pl.Cb.lt iY
         have mD:=Pl.Ex.size bf
         replace iY:Pl.Cb qD Hq 26 [.bool false,.slice none 0 0,.int .i64 0]:=iY
         have gK:=Pl.Ex.trans bK bf
         refine Pl.af ?_
         refine Pl.aW [(6,.bool false),(7,.bool true),(8,.pointer (some ⟨aK,0,none⟩)),(9,.pointer (some ⟨bQ,0,none⟩)),(10,.pointer (some ⟨kC,0,none⟩)),(11,.pointer (some ⟨Hq,0,none⟩)),(22,.agg #[.bool (decide (m5<0)),.slice A7 (limbs (Int.natAbs m5)).length c8,.int .i64 e6]),(25,.agg #[.bool (decide (m12<0)),.slice qK (limbs (Int.natAbs m12)).length c15,.int .i64 e13])] (Pl.aa rfl (Pl.aa rfl (Pl.aa rfl (Pl.aa rfl (Pl.aa rfl (Pl.aa rfl (Pl.aa rfl (Pl.aa rfl Pl.aA)))))))) ?_
         exact Kw _ _ ⟨m5,e6,A7,c8,m12,e13,qK,c15,Hq,(Pl.Ex.trans bu (Pl.Ex.trans dh bf)),(Un.below u9 (Pl.Ex.trans dh bf)),fC,(Un.below u16 bf),kG,iY,(by omega),rfl⟩
       · refine Pl.aU (z:=.agg #[.bool false,.slice none 0 0,.int .i64 0]) (by kernel_rfl) rfl rfl rfl rfl (fun Y hY=>Pl.Ex.trans bK hY) ?_
         intro Hq qD bf Dk iY
         have IJ:=Pl.Cb.lt iY
         have mD:=Pl.Ex.size bf
         replace iY:Pl.Cb qD Hq 26 [.bool false,.slice none 0 0,.int .i64 0]:=iY
         have gK:=Pl.Ex.trans bK bf
         refine Pl.af ?_
         refine Pl.aW [(6,.bool false),(7,.bool true),(8,.pointer (some ⟨aK,0,none⟩)),(9,.pointer (some ⟨bQ,0,none⟩)),(10,.pointer (some ⟨kC,0,none⟩)),(12,.pointer (some ⟨Hq,0,none⟩)),(22,.agg #[.bool (decide (m5<0)),.slice A7 (limbs (Int.natAbs m5)).length c8,.int .i64 e6]),(25,.agg #[.bool (decide (m12<0)),.slice qK (limbs (Int.natAbs m12)).length c15,.int .i64 e13])] (Pl.aa rfl (Pl.aa rfl (Pl.aa rfl (Pl.aa rfl (Pl.aa rfl (Pl.aa rfl (Pl.aa rfl (Pl.aa rfl Pl.aA)))))))) ?_
         exact Kv _ _ ⟨m5,e6,A7,c8,m12,e13,qK,c15,Hq,(Pl.Ex.trans bu (Pl.Ex.trans dh bf)),(Un.below u9 (Pl.Ex.trans dh bf)),fC,(Un.below u16 bf),kG,iY,(by omega),rfl⟩
     · refine Pl.aU (z:=.agg #[.bool false,.slice none 0 0,.int .i64 0]) (by kernel_rfl) rfl rfl rfl rfl (fun Y hY=>Pl.Ex.trans bD hY) ?_
       intro mo w9 dh AL gL
       have gp:=Pl.Cb.lt gL
       have pG:=Pl.Ex.size dh
       replace gL:Pl.Cb w9 mo 26 [.bool false,.slice none 0 0,.int .i64 0]:=gL
       have bK:=Pl.Ex.trans bD dh
       refine Pl.af ?_
       refine Pl.aW [(6,.bool false),(7,.bool true),(8,.pointer (some ⟨aK,0,none⟩)),(9,.pointer (some ⟨bQ,0,none⟩)),(10,.pointer (some ⟨kC,0,none⟩)),(11,.pointer (some ⟨mo,0,none⟩)),(22,.agg #[.bool (decide (m5<0)),.slice A7 (limbs (Int.natAbs m5)).length c8,.int .i64 e6]),(23,.agg #[.bool (decide (aN<0)),.slice aX (limbs (Int.natAbs aN)).length aY,.int .i64 bJ]),(24,.agg #[.bool (decide (aT<0)),.slice dB (limbs (Int.natAbs aT)).length dD,.int .i64 dA])] (Pl.aa rfl (Pl.aa rfl (Pl.aa rfl (Pl.aa rfl (Pl.aa rfl (Pl.aa rfl (Pl.aa rfl (Pl.aa rfl (Pl.aa rfl Pl.aA))))))))) ?_
       exact OX _ _ ⟨m5,e6,A7,c8,mo,(Pl.Ex.trans bu dh),(Un.below u9 dh),fC,gL,(by omega),rfl⟩
     · refine Pl.aU (z:=.agg #[.bool false,.slice none 0 0,.int .i64 0]) (by kernel_rfl) rfl rfl rfl rfl (fun Y hY=>Pl.Ex.trans bD hY) ?_
       intro mo w9 dh AL gL
       have gp:=Pl.Cb.lt gL
       have pG:=Pl.Ex.size dh
       replace gL:Pl.Cb w9 mo 26 [.bool false,.slice none 0 0,.int .i64 0]:=gL
       have bK:=Pl.Ex.trans bD dh
       refine Pl.af ?_
       refine Pl.aW [(6,.bool false),(7,.bool true),(8,.pointer (some ⟨aK,0,none⟩)),(9,.pointer (some ⟨bQ,0,none⟩)),(10,.pointer (some ⟨kC,0,none⟩)),(12,.pointer (some ⟨mo,0,none⟩)),(22,.agg #[.bool (decide (m5<0)),.slice A7 (limbs (Int.natAbs m5)).length c8,.int .i64 e6]),(23,.agg #[.bool (decide (aN<0)),.slice aX (limbs (Int.natAbs aN)).length aY,.int .i64 bJ]),(24,.agg #[.bool (decide (aT<0)),.slice dB (limbs (Int.natAbs aT)).length dD,.int .i64 dA])] (Pl.aa rfl (Pl.aa rfl (Pl.aa rfl (Pl.aa rfl (Pl.aa rfl (Pl.aa rfl (Pl.aa rfl (Pl.aa rfl (Pl.aa rfl Pl.aA))))))))) ?_
       exact Ky _ _ ⟨m5,e6,A7,c8,mo,(Pl.Ex.trans bu dh),(Un.below u9 dh),fC,gL,(by omega),rfl⟩
   · refine Pl.aU (z:=.agg #[.bool false,.slice none 0 0,.int .i64 0]) (by kernel_rfl) rfl rfl rfl rfl (fun Y hY=>Pl.Ex.trans bE hY) ?_
     intro N4 w8 bu iG aF
     have fE:=Pl.Cb.lt aF
     have mh:=Pl.Ex.size bu
     replace aF:Pl.Cb w8 N4 26 [.bool false,.slice none 0 0,.int .i64 0]:=aF
     have bD:=Pl.Ex.trans bE bu
     refine Pl.af ?_
     refine Pl.cB [2,7] 4 (by kernel_rfl) (by kernel_rfl) (by kernel_rfl) (Pl.aj ?_ (Pl.aj ?_ Pl.aJ))
     · refine Pl.ah rfl rfl rfl rfl rfl (fun u X=>Pl.enters Tryz.func26 (by kernel_rfl) rfl u X) ?_
       refine Calls.mono (lG _ (hg.ext (Pl.Ex.trans hE1 (Pl.Ex.trans hE2 (Pl.Ex.trans aO (Pl.Ex.trans aR (Pl.Ex.trans aP (Pl.Ex.trans aM (Pl.Ex.trans aH bu)))))))) _ _ x y 8 21 (-200) 456 (Dn.le (Dn.mk (Un.below dS (Pl.Ex.trans aH bu)) bz.can bz.val bz.sz bz.lo bz.hi) (by decide) (by decide) (by decide)) (Dn.le (Dn.mk (Un.below gG (Pl.Ex.trans aH bu)) bH.can bH.val bH.sz bH.lo bH.hi) (by decide) (by decide) (by decide)) (by decide) (by decide) (by decide) (by decide) (-201) 1416 (by decide) (by decide) (by decide) (by decide)) ?_
       rintro e w9 ⟨v5,rfl,hv5,dh⟩
       obtain ⟨m6,e7,A8,c9,rfl,rW,Hw⟩:=hv5
       have VW:=Hw.lo
       have VX:=Hw.hi
       have pG:=Pl.Ex.size dh
       have bK:=Pl.Ex.trans bD dh
       refine ⟨_,rfl,bK,?_⟩
       refine Pl.af ?_
       refine Pl.aW [(6,.bool false),(7,.bool true),(8,.pointer (some ⟨aK,0,none⟩)),(9,.pointer (some ⟨bQ,0,none⟩)),(10,.pointer (some ⟨kC,0,none⟩)),(11,.pointer (some ⟨N4,0,none⟩)),(22,.agg #[.bool (decide (m6<0)),.slice A8 (limbs (Int.natAbs m6)).length c9,.int .i64 e7]),(23,.agg #[.bool (decide (aN<0)),.slice aX (limbs (Int.natAbs aN)).length aY,.int .i64 bJ]),(24,.agg #[.bool (decide (aT<0)),.slice dB (limbs (Int.natAbs aT)).length dD,.int .i64 dA])] (Pl.aa rfl (Pl.aa rfl (Pl.aa rfl (Pl.aa rfl (Pl.aa rfl (Pl.aa rfl (Pl.aa rfl (Pl.aa rfl (Pl.aa rfl Pl.aA))))))))) ?_
       exact OX _ _ ⟨m6,e7,A8,c9,N4,(Pl.Ex.trans bu dh),rW,Hw,(Pl.Cb.ex aF dh),(by omega),rfl⟩
     · refine Pl.aU (z:=.agg #[.bool false,.slice none 0 0,.int .i64 0]) (by kernel_rfl) rfl rfl rfl rfl (fun Y hY=>Pl.Ex.trans bD hY) ?_
       intro N5 w9 dh qN cK
       have iy:=Pl.Cb.lt cK
       have pG:=Pl.Ex.size dh
       replace cK:Pl.Cb w9 N5 26 [.bool false,.slice none 0 0,.int .i64 0]:=cK
       have bK:=Pl.Ex.trans bD dh
       refine Pl.af ?_
       refine Pl.aW [(6,.bool false),(7,.bool true),(8,.pointer (some ⟨aK,0,none⟩)),(9,.pointer (some ⟨bQ,0,none⟩)),(10,.pointer (some ⟨kC,0,none⟩)),(11,.pointer (some ⟨N4,0,none⟩)),(12,.pointer (some ⟨N5,0,none⟩)),(20,.agg #[.bool (decide (aN<0)),.slice aX (limbs (Int.natAbs aN)).length aY,.int .i64 bJ]),(21,.agg #[.bool (decide (aT<0)),.slice dB (limbs (Int.natAbs aT)).length dD,.int .i64 dA]),(23,.agg #[.bool (decide (aN<0)),.slice aX (limbs (Int.natAbs aN)).length aY,.int .i64 bJ]),(24,.agg #[.bool (decide (aT<0)),.slice dB (limbs (Int.natAbs aT)).length dD,.int .i64 dA])] (Pl.aa rfl (Pl.aa rfl (Pl.aa rfl (Pl.aa rfl (Pl.aa rfl (Pl.aa rfl (Pl.aa rfl (Pl.aa rfl (Pl.aa rfl (Pl.aa rfl (Pl.aa rfl Pl.aA))))))))))) ?_
       exact VV _ _ ⟨N4,N5,(Pl.Ex.trans bu dh),(Pl.Cb.ex aF dh),(by omega),cK,(by omega),(by omega),rfl⟩
   · refine Pl.aU (z:=.agg #[.bool false,.slice none 0 0,.int .i64 0]) (by kernel_rfl) rfl rfl rfl rfl (fun Y hY=>Pl.Ex.trans bE hY) ?_
     intro N4 w8 bu iG aF
     have fE:=Pl.Cb.lt aF
     have mh:=Pl.Ex.size bu
     replace aF:Pl.Cb w8 N4 26 [.bool false,.slice none 0 0,.int .i64 0]:=aF
     have bD:=Pl.Ex.trans bE bu
     refine Pl.af ?_
     refine Pl.cB [2,6] 4 (by kernel_rfl) (by kernel_rfl) (by kernel_rfl) (Pl.aj ?_ (Pl.aj ?_ Pl.aJ))
     · refine Pl.ah rfl rfl rfl rfl rfl (fun u X=>Pl.enters Tryz.func26 (by kernel_rfl) rfl u X) ?_
       refine Calls.mono (lG _ (hg.ext (Pl.Ex.trans hE1 (Pl.Ex.trans hE2 (Pl.Ex.trans aO (Pl.Ex.trans aR (Pl.Ex.trans aP (Pl.Ex.trans aM (Pl.Ex.trans aH bu)))))))) _ _ x y 8 21 (-200) 456 (Dn.le (Dn.mk (Un.below dS (Pl.Ex.trans aH bu)) bz.can bz.val bz.sz bz.lo bz.hi) (by decide) (by decide) (by decide)) (Dn.le (Dn.mk (Un.below gG (Pl.Ex.trans aH bu)) bH.can bH.val bH.sz bH.lo bH.hi) (by decide) (by decide) (by decide)) (by decide) (by decide) (by decide) (by decide) (-201) 1416 (by decide) (by decide) (by decide) (by decide)) ?_
       rintro e w9 ⟨v5,rfl,hv5,dh⟩
       obtain ⟨m6,e7,A8,c9,rfl,rW,Hw⟩:=hv5
       have VW:=Hw.lo
       have VX:=Hw.hi
       have pG:=Pl.Ex.size dh
       have bK:=Pl.Ex.trans bD dh
       refine ⟨_,rfl,bK,?_⟩
       refine Pl.af ?_
       refine Pl.aW [(6,.bool false),(7,.bool true),(8,.pointer (some ⟨aK,0,none⟩)),(9,.pointer (some ⟨bQ,0,none⟩)),(10,.pointer (some ⟨kC,0,none⟩)),(12,.pointer (some ⟨N4,0,none⟩)),(22,.agg #[.bool (decide (m6<0)),.slice A8 (limbs (Int.natAbs m6)).length c9,.int .i64 e7]),(23,.agg #[.bool (decide (aN<0)),.slice aX (limbs (Int.natAbs aN)).length aY,.int .i64 bJ]),(24,.agg #[.bool (decide (aT<0)),.slice dB (limbs (Int.natAbs aT)).length dD,.int .i64 dA])] (Pl.aa rfl (Pl.aa rfl (Pl.aa rfl (Pl.aa rfl (Pl.aa rfl (Pl.aa rfl (Pl.aa rfl (Pl.aa rfl (Pl.aa rfl Pl.aA))))))))) ?_
       exact Ky _ _ ⟨m6,e7,A8,c9,N4,(Pl.Ex.trans bu dh),rW,Hw,(Pl.Cb.ex aF dh),(by omega),rfl⟩
     · refine Pl.aU (z:=.agg #[.bool false,.slice none 0 0,.int .i64 0]) (by kernel_rfl) rfl rfl rfl rfl (fun Y hY=>Pl.Ex.trans bD hY) ?_
       intro N5 w9 dh qN cK
       have iy:=Pl.Cb.lt cK
       have pG:=Pl.Ex.size dh
       replace cK:Pl.Cb w9 N5 26 [.bool false,.slice none 0 0,.int .i64 0]:=cK
       have bK:=Pl.Ex.trans bD dh
       refine Pl.af ?_
       refine Pl.aW [(6,.bool false),(7,.bool true),(8,.pointer (some ⟨aK,0,none⟩)),(9,.pointer (some ⟨bQ,0,none⟩)),(10,.pointer (some ⟨kC,0,none⟩)),(11,.pointer (some ⟨N5,0,none⟩)),(12,.pointer (some ⟨N4,0,none⟩)),(20,.agg #[.bool (decide (aN<0)),.slice aX (limbs (Int.natAbs aN)).length aY,.int .i64 bJ]),(21,.agg #[.bool (decide (aT<0)),.slice dB (limbs (Int.natAbs aT)).length dD,.int .i64 dA]),(23,.agg #[.bool (decide (aN<0)),.slice aX (limbs (Int.natAbs aN)).length aY,.int .i64 bJ]),(24,.agg #[.bool (decide (aT<0)),.slice dB (limbs (Int.natAbs aT)).length dD,.int .i64 dA])] (Pl.aa rfl (Pl.aa rfl (Pl.aa rfl (Pl.aa rfl (Pl.aa rfl (Pl.aa rfl (Pl.aa rfl (Pl.aa rfl (Pl.aa rfl (Pl.aa rfl (Pl.aa rfl Pl.aA))))))))))) ?_
       exact VV _ _ ⟨N5,N4,(Pl.Ex.trans bu dh),cK,(by omega),(Pl.Cb.ex aF dh),(by omega),(by omega),rfl⟩
 refine Pl.fP 4 479 (fun l' w'=>∃ (aN:Int) (bJ:Int) (aX:Option Addr) (aY:Nat) (aT:Int) (dA:Int) (dB:Option Addr) (dD:Nat) (aK:Nat) (bQ:Nat) (kC:Nat),Pl.Ex w5 w'∧(Un w' (.slice aX (limbs (Int.natAbs aN)).length aY) (Int.natAbs aN))∧(Dd aN bJ x 8 (-200) 456)∧(Un w' (.slice dB (limbs (Int.natAbs aT)).length dD) (Int.natAbs aT))∧(Dd aT dA y 8 (-200) 456)∧(Pl.Cb w' aK 26 [.bool false,.slice none 0 0,.int .i64 0])∧(w5.heap.size≤aK)∧(Pl.Cb w' bQ 26 [.bool false,.slice none 0 0,.int .i64 0])∧(w5.heap.size≤bQ)∧(Pl.Cb w' kC 26 [.bool false,.slice none 0 0,.int .i64 0])∧(w5.heap.size≤kC)∧(aK≠bQ)∧(aK≠kC)∧(bQ≠kC)∧l'=[(6,.bool false),(7,.bool true),(8,.pointer (some ⟨aK,0,none⟩)),(9,.pointer (some ⟨bQ,0,none⟩)),(10,.pointer (some ⟨kC,0,none⟩)),(15,.agg #[.bool (decide (aN<0)),.slice aX (limbs (Int.natAbs aN)).length aY,.int .i64 bJ]),(17,.agg #[.bool (decide (aT<0)),.slice dB (limbs (Int.natAbs aT)).length dD,.int .i64 dA]),(18,.agg #[.bool uW,.slice Az uJ.length cz,.int .i64 uX])]) ?_ fun QL=>?_
 · rintro _ w6 ⟨aN,bJ,aX,aY,aT,dA,dB,dD,aK,bQ,kC,aM,dS,bz,gG,bH,aV,jk,dV,nY,uF,QG,nZ,QH,QI,rfl⟩
   have jr:=Pl.Ex.size aM
   have bS:=Pl.Ex.trans hS5 aM
   have mO:=bz.lo
   have mP:=bz.hi
   have pE:=bH.lo
   have pF:=bH.hi
   have gU:=Pl.Cb.lt aV
   have lZ:=Pl.Cb.lt dV
   have M7:=Pl.Cb.lt uF
   refine Pl.aZ [(false,5,479),(false,9,511),(false,10,1023),(false,11,2047)] 4095 0 Pl.az (by kernel_rfl) (by kernel_rfl) (by kernel_rfl) ?_
   refine Pl.ah rfl rfl rfl rfl rfl (fun u X=>Pl.enters Tryz.func38 (by kernel_rfl) rfl u X) ?_
   refine Calls.mono (dF _ _ _ _ _ _ (U.below Y7 (Pl.Ex.trans hE1 (Pl.Ex.trans hE2 (Pl.Ex.trans aO (Pl.Ex.trans aR (Pl.Ex.trans aP aM)))))) 8 (by decide)) ?_
   rintro e w7 ⟨v4,rfl,hv4,aH⟩
   rw [Y8] at hv4
   replace hv4:=Dn.le hv4 (Nat.le_refl 8) (show (-200:Int) ≤ -200 by decide) (show _≤(456:Int) by decide)
   obtain ⟨m5,e6,A7,c8,rfl,u9,fC⟩:=hv4
   have sW:=fC.lo
   have sZ:=fC.hi
   have iU:=Pl.Ex.size aH
   have bE:=Pl.Ex.trans bS aH
   refine ⟨_,rfl,bE,?_⟩
   refine Pl.bg (new:=[.bool (decide (aN<0)),.slice aX (limbs (Int.natAbs aN)).length aY,.int .i64 bJ]) (Pl.Cb.ex aV aH) (by kernel_rfl) rfl (by simp [Value.oneCell']) rfl rfl rfl rfl rfl rfl (fun Y hY=>Pl.Ex.xs bE hY (by omega)) ?_
   intro w8 eX fU
   have bu:=Pl.Ex.xs (Pl.Ex.trans aM aH) eX (by omega)
   have mh:=Pl.Xs.size eX
   have bD:=Pl.Ex.xs bE eX (by omega)
   have dY:=Pl.Cb.xs (Pl.Cb.ex dV aH) eX (by simp;omega)
   have Be:=Pl.Cb.xs (Pl.Cb.ex uF aH) eX (by simp;omega)
   refine Pl.bg (new:=[.bool (decide (aT<0)),.slice dB (limbs (Int.natAbs aT)).length dD,.int .i64 dA]) dY (by kernel_rfl) rfl (by simp [Value.oneCell']) rfl rfl rfl rfl rfl rfl (fun Y hY=>Pl.Ex.xs bD hY (by omega)) ?_
   intro w9 gH ji
   have dh:=Pl.Ex.xs bu gH (by omega)
   have pG:=Pl.Xs.size gH
   have bK:=Pl.Ex.xs bD gH (by omega)
   have iF:=Pl.Cb.xs fU gH (by simp;omega)
   have pg:=Pl.Cb.xs Be gH (by simp;omega)
   refine Pl.bg (new:=[.bool (decide (m5<0)),.slice A7 (limbs (Int.natAbs m5)).length c8,.int .i64 e6]) pg (by kernel_rfl) rfl (by simp [Value.oneCell']) rfl rfl rfl rfl rfl rfl (fun Y hY=>Pl.Ex.xs bK hY (by omega)) ?_
   intro qD eU Bf
   have bf:=Pl.Ex.xs dh eU (by omega)
   have mD:=Pl.Xs.size eU
   have gK:=Pl.Ex.xs bK eU (by omega)
   have uQ:=Pl.Cb.xs iF eU (by simp;omega)
   have uR:=Pl.Cb.xs ji eU (by simp;omega)
   refine Pl.af ?_
   have k11:=Un.xs (Un.below dS aH) eX (Pl.Cb.ex aV aH) (by simp)
   have k12:=Un.xs k11 gH dY (by simp)
   have k13:=Un.xs k12 eU pg (by simp)
   have k14:=Un.xs (Un.below gG aH) eX (Pl.Cb.ex aV aH) (by simp)
   have k15:=Un.xs k14 gH dY (by simp)
   have k16:=Un.xs k15 eU pg (by simp)
   have k17:=Un.xs u9 eX (Pl.Cb.ex aV aH) (by simp)
   have k18:=Un.xs k17 gH dY (by simp)
   have k19:=Un.xs k18 eU pg (by simp)
   refine Pl.aW [(6,.bool false),(7,.bool true),(8,.pointer (some ⟨aK,0,none⟩)),(9,.pointer (some ⟨bQ,0,none⟩)),(10,.pointer (some ⟨kC,0,none⟩))] (Pl.aa rfl (Pl.aa rfl (Pl.aa rfl (Pl.aa rfl (Pl.aa rfl Pl.aA))))) ?_
   exact Ea _ _ ⟨aN,bJ,aX,aY,aT,dA,dB,dD,m5,e6,A7,c8,aK,bQ,kC,bf,k13,bz,k16,bH,k19,fC,uQ,(by omega),uR,(by omega),Bf,(by omega),(by omega),(by omega),(by omega),rfl⟩
 refine Pl.fP 4 447 (fun l' w'=>∃ (aN:Int) (bJ:Int) (aX:Option Addr) (aY:Nat) (aT:Int) (dA:Int) (dB:Option Addr) (dD:Nat) (gW:Int) (kS:Int) (kT:Option Addr) (kU:Nat) (aK:Nat) (bQ:Nat),Pl.Ex w5 w'∧(Un w' (.slice aX (limbs (Int.natAbs aN)).length aY) (Int.natAbs aN))∧(Dd aN bJ x 8 (-200) 456)∧(Un w' (.slice dB (limbs (Int.natAbs aT)).length dD) (Int.natAbs aT))∧(Dd aT dA y 8 (-200) 456)∧(Un w' (.slice kT (limbs (Int.natAbs gW)).length kU) (Int.natAbs gW))∧(Dd gW kS z 8 (-200) 456)∧(Pl.Cb w' aK 26 [.bool false,.slice none 0 0,.int .i64 0])∧(w5.heap.size≤aK)∧(Pl.Cb w' bQ 26 [.bool false,.slice none 0 0,.int .i64 0])∧(w5.heap.size≤bQ)∧(aK≠bQ)∧l'=[(6,.bool false),(7,.bool true),(9,.pointer (some ⟨aK,0,none⟩)),(10,.pointer (some ⟨bQ,0,none⟩)),(15,.agg #[.bool (decide (aN<0)),.slice aX (limbs (Int.natAbs aN)).length aY,.int .i64 bJ]),(17,.agg #[.bool (decide (aT<0)),.slice dB (limbs (Int.natAbs aT)).length dD,.int .i64 dA]),(19,.agg #[.bool (decide (gW<0)),.slice kT (limbs (Int.natAbs gW)).length kU,.int .i64 kS])]) ?_ fun QM=>?_
 · rintro _ w6 ⟨aN,bJ,aX,aY,aT,dA,dB,dD,gW,kS,kT,kU,aK,bQ,aM,dS,bz,gG,bH,uY,jH,aV,jk,dV,nY,nZ,rfl⟩
   have jr:=Pl.Ex.size aM
   have bS:=Pl.Ex.trans hS5 aM
   have mO:=bz.lo
   have mP:=bz.hi
   have pE:=bH.lo
   have pF:=bH.hi
   have Hr:=jH.lo
   have Ht:=jH.hi
   have gU:=Pl.Cb.lt aV
   have lZ:=Pl.Cb.lt dV
   refine Pl.aZ [(false,6,447),(false,9,511),(false,10,1023),(false,11,2047)] 4095 0 Pl.az (by kernel_rfl) (by kernel_rfl) (by kernel_rfl) ?_
   refine Pl.aU (z:=.agg #[.bool false,.slice none 0 0,.int .i64 0]) (by kernel_rfl) rfl rfl rfl rfl (fun Y hY=>Pl.Ex.trans bS hY) ?_
   intro N4 w7 aH iG aF
   have fE:=Pl.Cb.lt aF
   have iU:=Pl.Ex.size aH
   replace aF:Pl.Cb w7 N4 26 [.bool false,.slice none 0 0,.int .i64 0]:=aF
   have bE:=Pl.Ex.trans bS aH
   refine Pl.bg (new:=[.bool (decide (aN<0)),.slice aX (limbs (Int.natAbs aN)).length aY,.int .i64 bJ]) aF (by kernel_rfl) rfl (by simp [Value.oneCell']) rfl rfl rfl rfl rfl rfl (fun Y hY=>Pl.Ex.xs bE hY (by omega)) ?_
   intro w8 eX fB
   have bu:=Pl.Ex.xs aH eX (by omega)
   have mh:=Pl.Xs.size eX
   have bD:=Pl.Ex.xs bE eX (by omega)
   refine Pl.bg (new:=[.bool (decide (aT<0)),.slice dB (limbs (Int.natAbs aT)).length dD,.int .i64 dA]) (Pl.Cb.ex aV bu) (by kernel_rfl) rfl (by simp [Value.oneCell']) rfl rfl rfl rfl rfl rfl (fun Y hY=>Pl.Ex.xs bD hY (by omega)) ?_
   intro w9 gH fU
   have dh:=Pl.Ex.xs (Pl.Ex.trans aM bu) gH (by omega)
   have pG:=Pl.Xs.size gH
   have bK:=Pl.Ex.xs bD gH (by omega)
   have dY:=Pl.Cb.xs (Pl.Cb.ex dV bu) gH (by simp;omega)
   have jZ:=Pl.Cb.xs fB gH (by simp;omega)
   refine Pl.bg (new:=[.bool (decide (gW<0)),.slice kT (limbs (Int.natAbs gW)).length kU,.int .i64 kS]) dY (by kernel_rfl) rfl (by simp [Value.oneCell']) rfl rfl rfl rfl rfl rfl (fun Y hY=>Pl.Ex.xs bK hY (by omega)) ?_
   intro qD eU ji
   have bf:=Pl.Ex.xs dh eU (by omega)
   have mD:=Pl.Xs.size eU
   have gK:=Pl.Ex.xs bK eU (by omega)
   have iF:=Pl.Cb.xs fU eU (by simp;omega)
   have Kz:=Pl.Cb.xs jZ eU (by simp;omega)
   refine Pl.af ?_
   have k5:=Un.xs (Un.below dS bu) gH (Pl.Cb.ex aV bu) (by simp)
   have k6:=Un.xs k5 eU dY (by simp)
   have k7:=Un.xs (Un.below gG bu) gH (Pl.Cb.ex aV bu) (by simp)
   have k8:=Un.xs k7 eU dY (by simp)
   have k9:=Un.xs (Un.below uY bu) gH (Pl.Cb.ex aV bu) (by simp)
   have k10:=Un.xs k9 eU dY (by simp)
   refine Pl.aW [(6,.bool false),(7,.bool true),(8,.pointer (some ⟨N4,0,none⟩)),(9,.pointer (some ⟨aK,0,none⟩)),(10,.pointer (some ⟨bQ,0,none⟩))] (Pl.aa rfl (Pl.aa rfl (Pl.aa rfl (Pl.aa rfl (Pl.aa rfl Pl.aA))))) ?_
   exact Ea _ _ ⟨aN,bJ,aX,aY,aT,dA,dB,dD,gW,kS,kT,kU,N4,aK,bQ,bf,k6,bz,k8,bH,k10,jH,Kz,(by omega),iF,(by omega),ji,(by omega),(by omega),(by omega),(by omega),rfl⟩
 refine Pl.fP 4 383 (fun l' w'=>∃ (aN:Int) (bJ:Int) (aX:Option Addr) (aY:Nat) (aT:Int) (dA:Int) (dB:Option Addr) (dD:Nat) (gW:Int) (kS:Int) (kT:Option Addr) (kU:Nat) (aK:Nat) (bQ:Nat),Pl.Ex w5 w'∧(Un w' (.slice aX (limbs (Int.natAbs aN)).length aY) (Int.natAbs aN))∧(Dd aN bJ x 8 (-200) 456)∧(Un w' (.slice dB (limbs (Int.natAbs aT)).length dD) (Int.natAbs aT))∧(Dd aT dA y 8 (-200) 456)∧(Un w' (.slice kT (limbs (Int.natAbs gW)).length kU) (Int.natAbs gW))∧(Dd gW kS z 8 (-200) 456)∧(Pl.Cb w' aK 26 [.bool false,.slice none 0 0,.int .i64 0])∧(w5.heap.size≤aK)∧(Pl.Cb w' bQ 26 [.bool false,.slice none 0 0,.int .i64 0])∧(w5.heap.size≤bQ)∧(aK≠bQ)∧l'=[(6,.bool false),(7,.bool true),(8,.pointer (some ⟨aK,0,none⟩)),(10,.pointer (some ⟨bQ,0,none⟩)),(15,.agg #[.bool (decide (aN<0)),.slice aX (limbs (Int.natAbs aN)).length aY,.int .i64 bJ]),(17,.agg #[.bool (decide (aT<0)),.slice dB (limbs (Int.natAbs aT)).length dD,.int .i64 dA]),(19,.agg #[.bool (decide (gW<0)),.slice kT (limbs (Int.natAbs gW)).length kU,.int .i64 kS])]) ?_ fun Hy=>?_
 · rintro _ w6 ⟨aN,bJ,aX,aY,aT,dA,dB,dD,gW,kS,kT,kU,aK,bQ,aM,dS,bz,gG,bH,uY,jH,aV,jk,dV,nY,nZ,rfl⟩
   have jr:=Pl.Ex.size aM
   have bS:=Pl.Ex.trans hS5 aM
   have mO:=bz.lo
   have mP:=bz.hi
   have pE:=bH.lo
   have pF:=bH.hi
   have Hr:=jH.lo
   have Ht:=jH.hi
   have gU:=Pl.Cb.lt aV
   have lZ:=Pl.Cb.lt dV
   refine Pl.aZ [(false,7,383),(false,9,511),(false,10,1023),(false,11,2047)] 4095 0 Pl.az (by kernel_rfl) (by kernel_rfl) (by kernel_rfl) ?_
   refine Pl.aU (z:=.agg #[.bool false,.slice none 0 0,.int .i64 0]) (by kernel_rfl) rfl rfl rfl rfl (fun Y hY=>Pl.Ex.trans bS hY) ?_
   intro N4 w7 aH iG aF
   have fE:=Pl.Cb.lt aF
   have iU:=Pl.Ex.size aH
   replace aF:Pl.Cb w7 N4 26 [.bool false,.slice none 0 0,.int .i64 0]:=aF
   have bE:=Pl.Ex.trans bS aH
   refine Pl.bg (new:=[.bool (decide (aN<0)),.slice aX (limbs (Int.natAbs aN)).length aY,.int .i64 bJ]) (Pl.Cb.ex aV aH) (by kernel_rfl) rfl (by simp [Value.oneCell']) rfl rfl rfl rfl rfl rfl (fun Y hY=>Pl.Ex.xs bE hY (by omega)) ?_
   intro w8 eX fU
   have bu:=Pl.Ex.xs (Pl.Ex.trans aM aH) eX (by omega)
   have mh:=Pl.Xs.size eX
   have bD:=Pl.Ex.xs bE eX (by omega)
   have dY:=Pl.Cb.xs (Pl.Cb.ex dV aH) eX (by simp;omega)
   have fB:=Pl.Cb.xs aF eX (by simp;omega)
   refine Pl.bg (new:=[.bool (decide (aT<0)),.slice dB (limbs (Int.natAbs aT)).length dD,.int .i64 dA]) fB (by kernel_rfl) rfl (by simp [Value.oneCell']) rfl rfl rfl rfl rfl rfl (fun Y hY=>Pl.Ex.xs bD hY (by omega)) ?_
   intro w9 gH jZ
   have dh:=Pl.Ex.xs bu gH (by omega)
   have pG:=Pl.Xs.size gH
   have bK:=Pl.Ex.xs bD gH (by omega)
   have iF:=Pl.Cb.xs fU gH (by simp;omega)
   have ji:=Pl.Cb.xs dY gH (by simp;omega)
   refine Pl.bg (new:=[.bool (decide (gW<0)),.slice kT (limbs (Int.natAbs gW)).length kU,.int .i64 kS]) ji (by kernel_rfl) rfl (by simp [Value.oneCell']) rfl rfl rfl rfl rfl rfl (fun Y hY=>Pl.Ex.xs bK hY (by omega)) ?_
   intro qD eU uR
   have bf:=Pl.Ex.xs dh eU (by omega)
   have mD:=Pl.Xs.size eU
   have gK:=Pl.Ex.xs bK eU (by omega)
   have uQ:=Pl.Cb.xs iF eU (by simp;omega)
   have Kz:=Pl.Cb.xs jZ eU (by simp;omega)
   refine Pl.af ?_
   have k5:=Un.xs (Un.below dS aH) eX (Pl.Cb.ex aV aH) (by simp)
   have k6:=Un.xs k5 gH fB (by simp)
   have k7:=Un.xs k6 eU ji (by simp)
   have k8:=Un.xs (Un.below gG aH) eX (Pl.Cb.ex aV aH) (by simp)
   have k9:=Un.xs k8 gH fB (by simp)
   have k10:=Un.xs k9 eU ji (by simp)
   have k11:=Un.xs (Un.below uY aH) eX (Pl.Cb.ex aV aH) (by simp)
   have k12:=Un.xs k11 gH fB (by simp)
   have k13:=Un.xs k12 eU ji (by simp)
   refine Pl.aW [(6,.bool false),(7,.bool true),(8,.pointer (some ⟨aK,0,none⟩)),(9,.pointer (some ⟨N4,0,none⟩)),(10,.pointer (some ⟨bQ,0,none⟩))] (Pl.aa rfl (Pl.aa rfl (Pl.aa rfl (Pl.aa rfl (Pl.aa rfl Pl.aA))))) ?_
   exact Ea _ _ ⟨aN,bJ,aX,aY,aT,dA,dB,dD,gW,kS,kT,kU,aK,N4,bQ,bf,k7,bz,k10,bH,k13,jH,uQ,(by omega),Kz,(by omega),uR,(by omega),(by omega),(by omega),(by omega),rfl⟩
 refine Pl.fP 4 255 (fun l' w'=>∃ (aN:Int) (bJ:Int) (aX:Option Addr) (aY:Nat) (aT:Int) (dA:Int) (dB:Option Addr) (dD:Nat) (gW:Int) (kS:Int) (kT:Option Addr) (kU:Nat) (aK:Nat) (bQ:Nat),Pl.Ex w5 w'∧(Un w' (.slice aX (limbs (Int.natAbs aN)).length aY) (Int.natAbs aN))∧(Dd aN bJ x 8 (-200) 456)∧(Un w' (.slice dB (limbs (Int.natAbs aT)).length dD) (Int.natAbs aT))∧(Dd aT dA y 8 (-200) 456)∧(Un w' (.slice kT (limbs (Int.natAbs gW)).length kU) (Int.natAbs gW))∧(Dd gW kS z 8 (-200) 456)∧(Pl.Cb w' aK 26 [.bool false,.slice none 0 0,.int .i64 0])∧(w5.heap.size≤aK)∧(Pl.Cb w' bQ 26 [.bool false,.slice none 0 0,.int .i64 0])∧(w5.heap.size≤bQ)∧(aK≠bQ)∧l'=[(6,.bool false),(7,.bool true),(8,.pointer (some ⟨aK,0,none⟩)),(9,.pointer (some ⟨bQ,0,none⟩)),(15,.agg #[.bool (decide (aN<0)),.slice aX (limbs (Int.natAbs aN)).length aY,.int .i64 bJ]),(17,.agg #[.bool (decide (aT<0)),.slice dB (limbs (Int.natAbs aT)).length dD,.int .i64 dA]),(19,.agg #[.bool (decide (gW<0)),.slice kT (limbs (Int.natAbs gW)).length kU,.int .i64 kS])]) ?_ fun tF=>?_
 · rintro _ w6 ⟨aN,bJ,aX,aY,aT,dA,dB,dD,gW,kS,kT,kU,aK,bQ,aM,dS,bz,gG,bH,uY,jH,aV,jk,dV,nY,nZ,rfl⟩
   have jr:=Pl.Ex.size aM
   have bS:=Pl.Ex.trans hS5 aM
   have mO:=bz.lo
   have mP:=bz.hi
   have pE:=bH.lo
   have pF:=bH.hi
   have Hr:=jH.lo
   have Ht:=jH.hi
   have gU:=Pl.Cb.lt aV
   have lZ:=Pl.Cb.lt dV
   refine Pl.aZ [(false,8,255),(false,9,511),(false,10,1023),(false,11,2047)] 4095 0 Pl.az (by kernel_rfl) (by kernel_rfl) (by kernel_rfl) ?_
   refine Pl.aU (z:=.agg #[.bool false,.slice none 0 0,.int .i64 0]) (by kernel_rfl) rfl rfl rfl rfl (fun Y hY=>Pl.Ex.trans bS hY) ?_
   intro N4 w7 aH iG aF
   have fE:=Pl.Cb.lt aF
   have iU:=Pl.Ex.size aH
   replace aF:Pl.Cb w7 N4 26 [.bool false,.slice none 0 0,.int .i64 0]:=aF
   have bE:=Pl.Ex.trans bS aH
   refine Pl.bg (new:=[.bool (decide (aN<0)),.slice aX (limbs (Int.natAbs aN)).length aY,.int .i64 bJ]) (Pl.Cb.ex aV aH) (by kernel_rfl) rfl (by simp [Value.oneCell']) rfl rfl rfl rfl rfl rfl (fun Y hY=>Pl.Ex.xs bE hY (by omega)) ?_
   intro w8 eX fU
   have bu:=Pl.Ex.xs (Pl.Ex.trans aM aH) eX (by omega)
   have mh:=Pl.Xs.size eX
   have bD:=Pl.Ex.xs bE eX (by omega)
   have dY:=Pl.Cb.xs (Pl.Cb.ex dV aH) eX (by simp;omega)
   have fB:=Pl.Cb.xs aF eX (by simp;omega)
   refine Pl.bg (new:=[.bool (decide (aT<0)),.slice dB (limbs (Int.natAbs aT)).length dD,.int .i64 dA]) dY (by kernel_rfl) rfl (by simp [Value.oneCell']) rfl rfl rfl rfl rfl rfl (fun Y hY=>Pl.Ex.xs bD hY (by omega)) ?_
   intro w9 gH ji
   have dh:=Pl.Ex.xs bu gH (by omega)
   have pG:=Pl.Xs.size gH
   have bK:=Pl.Ex.xs bD gH (by omega)
   have iF:=Pl.Cb.xs fU gH (by simp;omega)
   have jZ:=Pl.Cb.xs fB gH (by simp;omega)
   refine Pl.bg (new:=[.bool (decide (gW<0)),.slice kT (limbs (Int.natAbs gW)).length kU,.int .i64 kS]) jZ (by kernel_rfl) rfl (by simp [Value.oneCell']) rfl rfl rfl rfl rfl rfl (fun Y hY=>Pl.Ex.xs bK hY (by omega)) ?_
   intro qD eU Kz
   have bf:=Pl.Ex.xs dh eU (by omega)
   have mD:=Pl.Xs.size eU
   have gK:=Pl.Ex.xs bK eU (by omega)
   have uQ:=Pl.Cb.xs iF eU (by simp;omega)
   have uR:=Pl.Cb.xs ji eU (by simp;omega)
   refine Pl.af ?_
   have k5:=Un.xs (Un.below dS aH) eX (Pl.Cb.ex aV aH) (by simp)
   have k6:=Un.xs k5 gH dY (by simp)
   have k7:=Un.xs k6 eU jZ (by simp)
   have k8:=Un.xs (Un.below gG aH) eX (Pl.Cb.ex aV aH) (by simp)
   have k9:=Un.xs k8 gH dY (by simp)
   have k10:=Un.xs k9 eU jZ (by simp)
   have k11:=Un.xs (Un.below uY aH) eX (Pl.Cb.ex aV aH) (by simp)
   have k12:=Un.xs k11 gH dY (by simp)
   have k13:=Un.xs k12 eU jZ (by simp)
   refine Pl.aW [(6,.bool false),(7,.bool true),(8,.pointer (some ⟨aK,0,none⟩)),(9,.pointer (some ⟨bQ,0,none⟩)),(10,.pointer (some ⟨N4,0,none⟩))] (Pl.aa rfl (Pl.aa rfl (Pl.aa rfl (Pl.aa rfl (Pl.aa rfl Pl.aA))))) ?_
   exact Ea _ _ ⟨aN,bJ,aX,aY,aT,dA,dB,dD,gW,kS,kT,kU,aK,bQ,N4,bf,k7,bz,k10,bH,k13,jH,uQ,(by omega),uR,(by omega),Kz,(by omega),(by omega),(by omega),(by omega),rfl⟩
 refine Pl.fP 5 471 (fun l' w'=>∃ (aN:Int) (bJ:Int) (aX:Option Addr) (aY:Nat) (aK:Nat) (bQ:Nat) (kC:Nat),Pl.Ex w5 w'∧(Un w' (.slice aX (limbs (Int.natAbs aN)).length aY) (Int.natAbs aN))∧(Dd aN bJ x 8 (-200) 456)∧(Pl.Cb w' aK 26 [.bool false,.slice none 0 0,.int .i64 0])∧(w5.heap.size≤aK)∧(Pl.Cb w' bQ 26 [.bool false,.slice none 0 0,.int .i64 0])∧(w5.heap.size≤bQ)∧(Pl.Cb w' kC 26 [.bool false,.slice none 0 0,.int .i64 0])∧(w5.heap.size≤kC)∧(aK≠bQ)∧(aK≠kC)∧(bQ≠kC)∧l'=[(6,.bool false),(7,.bool true),(8,.pointer (some ⟨aK,0,none⟩)),(9,.pointer (some ⟨bQ,0,none⟩)),(10,.pointer (some ⟨kC,0,none⟩)),(15,.agg #[.bool (decide (aN<0)),.slice aX (limbs (Int.natAbs aN)).length aY,.int .i64 bJ]),(16,.agg #[.bool qy,.slice Ay oP.length cy,.int .i64 qA]),(18,.agg #[.bool uW,.slice Az uJ.length cz,.int .i64 uX])]) ?_ fun QN=>?_
 · rintro _ w6 ⟨aN,bJ,aX,aY,aK,bQ,kC,aM,dS,bz,aV,jk,dV,nY,uF,QG,nZ,QH,QI,rfl⟩
   have jr:=Pl.Ex.size aM
   have bS:=Pl.Ex.trans hS5 aM
   have mO:=bz.lo
   have mP:=bz.hi
   have gU:=Pl.Cb.lt aV
   have lZ:=Pl.Cb.lt dV
   have M7:=Pl.Cb.lt uF
   refine Pl.aZ [(false,3,471),(false,5,479),(false,9,511),(false,10,1023),(false,11,2047)] 4095 0 Pl.az (by kernel_rfl) (by kernel_rfl) (by kernel_rfl) ?_
   refine Pl.ah rfl rfl rfl rfl rfl (fun u X=>Pl.enters Tryz.func38 (by kernel_rfl) rfl u X) ?_
   refine Calls.mono (dF _ _ _ _ _ _ (U.below IB (Pl.Ex.trans hE1 (Pl.Ex.trans hE2 (Pl.Ex.trans aO (Pl.Ex.trans aR (Pl.Ex.trans aP aM)))))) 8 (by decide)) ?_
   rintro e w7 ⟨v4,rfl,hv4,aH⟩
   rw [Ho] at hv4
   replace hv4:=Dn.le hv4 (Nat.le_refl 8) (show (-200:Int) ≤ -200 by decide) (show _≤(456:Int) by decide)
   obtain ⟨m5,e6,A7,c8,rfl,u9,fC⟩:=hv4
   have sW:=fC.lo
   have sZ:=fC.hi
   have iU:=Pl.Ex.size aH
   have bE:=Pl.Ex.trans bS aH
   refine ⟨_,rfl,bE,?_⟩
   refine Pl.ah rfl rfl rfl rfl rfl (fun u X=>Pl.enters Tryz.func38 (by kernel_rfl) rfl u X) ?_
   refine Calls.mono (dF _ _ _ _ _ _ (U.below Y7 (Pl.Ex.trans hE1 (Pl.Ex.trans hE2 (Pl.Ex.trans aO (Pl.Ex.trans aR (Pl.Ex.trans aP (Pl.Ex.trans aM aH))))))) 8 (by decide)) ?_
   rintro e w8 ⟨v11,rfl,kL,bu⟩
   rw [Y8] at kL
   replace kL:=Dn.le kL (Nat.le_refl 8) (show (-200:Int) ≤ -200 by decide) (show _≤(456:Int) by decide)
   obtain ⟨m12,e13,qK,c15,rfl,u16,kG⟩:=kL
   have LF:=kG.lo
   have LG:=kG.hi
   have mh:=Pl.Ex.size bu
   have bD:=Pl.Ex.trans bE bu
   refine ⟨_,rfl,bD,?_⟩
   refine Pl.bg (new:=[.bool (decide (aN<0)),.slice aX (limbs (Int.natAbs aN)).length aY,.int .i64 bJ]) (Pl.Cb.ex aV (Pl.Ex.trans aH bu)) (by kernel_rfl) rfl (by simp [Value.oneCell']) rfl rfl rfl rfl rfl rfl (fun Y hY=>Pl.Ex.xs bD hY (by omega)) ?_
   intro w9 gH fU
   have dh:=Pl.Ex.xs (Pl.Ex.trans aM (Pl.Ex.trans aH bu)) gH (by omega)
   have pG:=Pl.Xs.size gH
   have bK:=Pl.Ex.xs bD gH (by omega)
   have dY:=Pl.Cb.xs (Pl.Cb.ex dV (Pl.Ex.trans aH bu)) gH (by simp;omega)
   have Be:=Pl.Cb.xs (Pl.Cb.ex uF (Pl.Ex.trans aH bu)) gH (by simp;omega)
   refine Pl.bg (new:=[.bool (decide (m5<0)),.slice A7 (limbs (Int.natAbs m5)).length c8,.int .i64 e6]) dY (by kernel_rfl) rfl (by simp [Value.oneCell']) rfl rfl rfl rfl rfl rfl (fun Y hY=>Pl.Ex.xs bK hY (by omega)) ?_
   intro qD eU ji
   have bf:=Pl.Ex.xs dh eU (by omega)
   have mD:=Pl.Xs.size eU
   have gK:=Pl.Ex.xs bK eU (by omega)
   have iF:=Pl.Cb.xs fU eU (by simp;omega)
   have pg:=Pl.Cb.xs Be eU (by simp;omega)
   refine Pl.bg (new:=[.bool (decide (m12<0)),.slice qK (limbs (Int.natAbs m12)).length c15,.int .i64 e13]) pg (by kernel_rfl) rfl (by simp [Value.oneCell']) rfl rfl rfl rfl rfl rfl (fun Y hY=>Pl.Ex.xs gK hY (by omega)) ?_
   intro uV jI Bf
   have bI:=Pl.Ex.xs bf jI (by omega)
   have qx:=Pl.Xs.size jI
   have iT:=Pl.Ex.xs gK jI (by omega)
   have uQ:=Pl.Cb.xs iF jI (by simp;omega)
   have uR:=Pl.Cb.xs ji jI (by simp;omega)
   refine Pl.af ?_
   have k18:=Un.xs (Un.below dS (Pl.Ex.trans aH bu)) gH (Pl.Cb.ex aV (Pl.Ex.trans aH bu)) (by simp)
   have k19:=Un.xs k18 eU dY (by simp)
   have k20:=Un.xs k19 jI pg (by simp)
   have k21:=Un.xs (Un.below u9 bu) gH (Pl.Cb.ex aV (Pl.Ex.trans aH bu)) (by simp)
   have k22:=Un.xs k21 eU dY (by simp)
   have k23:=Un.xs k22 jI pg (by simp)
   have k24:=Un.xs u16 gH (Pl.Cb.ex aV (Pl.Ex.trans aH bu)) (by simp)
   have k25:=Un.xs k24 eU dY (by simp)
   have k26:=Un.xs k25 jI pg (by simp)
   refine Pl.aW [(6,.bool false),(7,.bool true),(8,.pointer (some ⟨aK,0,none⟩)),(9,.pointer (some ⟨bQ,0,none⟩)),(10,.pointer (some ⟨kC,0,none⟩))] (Pl.aa rfl (Pl.aa rfl (Pl.aa rfl (Pl.aa rfl (Pl.aa rfl Pl.aA))))) ?_
   exact Ea _ _ ⟨aN,bJ,aX,aY,m5,e6,A7,c8,m12,e13,qK,c15,aK,bQ,kC,bI,k20,bz,k23,fC,k26,kG,uQ,(by omega),uR,(by omega),Bf,(by omega),(by omega),(by omega),(by omega),rfl⟩
 refine Pl.fP 5 415 (fun l' w'=>∃ (aN:Int) (bJ:Int) (aX:Option Addr) (aY:Nat) (aT:Int) (dA:Int) (dB:Option Addr) (dD:Nat) (aK:Nat) (bQ:Nat),Pl.Ex w5 w'∧(Un w' (.slice aX (limbs (Int.natAbs aN)).length aY) (Int.natAbs aN))∧(Dd aN bJ x 8 (-200) 456)∧(Un w' (.slice dB (limbs (Int.natAbs aT)).length dD) (Int.natAbs aT))∧(Dd aT dA y 8 (-200) 456)∧(Pl.Cb w' aK 26 [.bool false,.slice none 0 0,.int .i64 0])∧(w5.heap.size≤aK)∧(Pl.Cb w' bQ 26 [.bool false,.slice none 0 0,.int .i64 0])∧(w5.heap.size≤bQ)∧(aK≠bQ)∧l'=[(6,.bool false),(7,.bool true),(9,.pointer (some ⟨aK,0,none⟩)),(10,.pointer (some ⟨bQ,0,none⟩)),(15,.agg #[.bool (decide (aN<0)),.slice aX (limbs (Int.natAbs aN)).length aY,.int .i64 bJ]),(17,.agg #[.bool (decide (aT<0)),.slice dB (limbs (Int.natAbs aT)).length dD,.int .i64 dA]),(18,.agg #[.bool uW,.slice Az uJ.length cz,.int .i64 uX])]) ?_ fun QO=>?_
 · rintro _ w6 ⟨aN,bJ,aX,aY,aT,dA,dB,dD,aK,bQ,aM,dS,bz,gG,bH,aV,jk,dV,nY,nZ,rfl⟩
   have jr:=Pl.Ex.size aM
   have bS:=Pl.Ex.trans hS5 aM
   have mO:=bz.lo
   have mP:=bz.hi
   have pE:=bH.lo
   have pF:=bH.hi
   have gU:=Pl.Cb.lt aV
   have lZ:=Pl.Cb.lt dV
   refine Pl.cB [5,6] 4 (by kernel_rfl) (by kernel_rfl) (by kernel_rfl) (Pl.aj ?_ (Pl.aj ?_ Pl.aJ))
   · refine Pl.ah rfl rfl rfl rfl rfl (fun u X=>Pl.enters Tryz.func38 (by kernel_rfl) rfl u X) ?_
     refine Calls.mono (dF _ _ _ _ _ _ (U.below Y7 (Pl.Ex.trans hE1 (Pl.Ex.trans hE2 (Pl.Ex.trans aO (Pl.Ex.trans aR (Pl.Ex.trans aP aM)))))) 8 (by decide)) ?_
     rintro e w7 ⟨v4,rfl,hv4,aH⟩
     rw [Y8] at hv4
     replace hv4:=Dn.le hv4 (Nat.le_refl 8) (show (-200:Int) ≤ -200 by decide) (show _≤(456:Int) by decide)
     obtain ⟨m5,e6,A7,c8,rfl,u9,fC⟩:=hv4
     have sW:=fC.lo
     have sZ:=fC.hi
     have iU:=Pl.Ex.size aH
     have bE:=Pl.Ex.trans bS aH
     refine ⟨_,rfl,bE,?_⟩
     refine Pl.af ?_
     refine Pl.aW [(6,.bool false),(7,.bool true),(9,.pointer (some ⟨aK,0,none⟩)),(10,.pointer (some ⟨bQ,0,none⟩)),(15,.agg #[.bool (decide (aN<0)),.slice aX (limbs (Int.natAbs aN)).length aY,.int .i64 bJ]),(17,.agg #[.bool (decide (aT<0)),.slice dB (limbs (Int.natAbs aT)).length dD,.int .i64 dA]),(19,.agg #[.bool (decide (m5<0)),.slice A7 (limbs (Int.natAbs m5)).length c8,.int .i64 e6])] (Pl.aa rfl (Pl.aa rfl (Pl.aa rfl (Pl.aa rfl (Pl.aa rfl (Pl.aa rfl (Pl.aa rfl Pl.aA))))))) ?_
     exact QM _ _ ⟨aN,bJ,aX,aY,aT,dA,dB,dD,m5,e6,A7,c8,aK,bQ,(Pl.Ex.trans aM aH),(Un.below dS aH),bz,(Un.below gG aH),bH,u9,fC,(Pl.Cb.ex aV aH),(by omega),(Pl.Cb.ex dV aH),(by omega),(by omega),rfl⟩
   · refine Pl.aU (z:=.agg #[.bool false,.slice none 0 0,.int .i64 0]) (by kernel_rfl) rfl rfl rfl rfl (fun Y hY=>Pl.Ex.trans bS hY) ?_
     intro N4 w7 aH iG aF
     have fE:=Pl.Cb.lt aF
     have iU:=Pl.Ex.size aH
     replace aF:Pl.Cb w7 N4 26 [.bool false,.slice none 0 0,.int .i64 0]:=aF
     have bE:=Pl.Ex.trans bS aH
     refine Pl.af ?_
     refine Pl.aW [(6,.bool false),(7,.bool true),(8,.pointer (some ⟨N4,0,none⟩)),(9,.pointer (some ⟨aK,0,none⟩)),(10,.pointer (some ⟨bQ,0,none⟩)),(15,.agg #[.bool (decide (aN<0)),.slice aX (limbs (Int.natAbs aN)).length aY,.int .i64 bJ]),(17,.agg #[.bool (decide (aT<0)),.slice dB (limbs (Int.natAbs aT)).length dD,.int .i64 dA]),(18,.agg #[.bool uW,.slice Az uJ.length cz,.int .i64 uX])] (Pl.aa rfl (Pl.aa rfl (Pl.aa rfl (Pl.aa rfl (Pl.aa rfl (Pl.aa rfl (Pl.aa rfl (Pl.aa rfl Pl.aA)))))))) ?_
     exact QL _ _ ⟨aN,bJ,aX,aY,aT,dA,dB,dD,N4,aK,bQ,(Pl.Ex.trans aM aH),(Un.below dS aH),bz,(Un.below gG aH),bH,aF,(by omega),(Pl.Cb.ex aV aH),(by omega),(Pl.Cb.ex dV aH),(by omega),(by omega),(by omega),(by omega),rfl⟩
 refine Pl.fP 5 351 (fun l' w'=>∃ (aN:Int) (bJ:Int) (aX:Option Addr) (aY:Nat) (aT:Int) (dA:Int) (dB:Option Addr) (dD:Nat) (aK:Nat) (bQ:Nat),Pl.Ex w5 w'∧(Un w' (.slice aX (limbs (Int.natAbs aN)).length aY) (Int.natAbs aN))∧(Dd aN bJ x 8 (-200) 456)∧(Un w' (.slice dB (limbs (Int.natAbs aT)).length dD) (Int.natAbs aT))∧(Dd aT dA y 8 (-200) 456)∧(Pl.Cb w' aK 26 [.bool false,.slice none 0 0,.int .i64 0])∧(w5.heap.size≤aK)∧(Pl.Cb w' bQ 26 [.bool false,.slice none 0 0,.int .i64 0])∧(w5.heap.size≤bQ)∧(aK≠bQ)∧l'=[(6,.bool false),(7,.bool true),(8,.pointer (some ⟨aK,0,none⟩)),(10,.pointer (some ⟨bQ,0,none⟩)),(15,.agg #[.bool (decide (aN<0)),.slice aX (limbs (Int.natAbs aN)).length aY,.int .i64 bJ]),(17,.agg #[.bool (decide (aT<0)),.slice dB (limbs (Int.natAbs aT)).length dD,.int .i64 dA]),(18,.agg #[.bool uW,.slice Az uJ.length cz,.int .i64 uX])]) ?_ fun Hz=>?_
 · rintro _ w6 ⟨aN,bJ,aX,aY,aT,dA,dB,dD,aK,bQ,aM,dS,bz,gG,bH,aV,jk,dV,nY,nZ,rfl⟩
   have jr:=Pl.Ex.size aM
   have bS:=Pl.Ex.trans hS5 aM
   have mO:=bz.lo
   have mP:=bz.hi
   have pE:=bH.lo
   have pF:=bH.hi
   have gU:=Pl.Cb.lt aV
   have lZ:=Pl.Cb.lt dV
   refine Pl.cB [5,7] 4 (by kernel_rfl) (by kernel_rfl) (by kernel_rfl) (Pl.aj ?_ (Pl.aj ?_ Pl.aJ))
   · refine Pl.ah rfl rfl rfl rfl rfl (fun u X=>Pl.enters Tryz.func38 (by kernel_rfl) rfl u X) ?_
     refine Calls.mono (dF _ _ _ _ _ _ (U.below Y7 (Pl.Ex.trans hE1 (Pl.Ex.trans hE2 (Pl.Ex.trans aO (Pl.Ex.trans aR (Pl.Ex.trans aP aM)))))) 8 (by decide)) ?_
     rintro e w7 ⟨v4,rfl,hv4,aH⟩
     rw [Y8] at hv4
     replace hv4:=Dn.le hv4 (Nat.le_refl 8) (show (-200:Int) ≤ -200 by decide) (show _≤(456:Int) by decide)
     obtain ⟨m5,e6,A7,c8,rfl,u9,fC⟩:=hv4
     have sW:=fC.lo
     have sZ:=fC.hi
     have iU:=Pl.Ex.size aH
     have bE:=Pl.Ex.trans bS aH
     refine ⟨_,rfl,bE,?_⟩
     refine Pl.af ?_
     refine Pl.aW [(6,.bool false),(7,.bool true),(8,.pointer (some ⟨aK,0,none⟩)),(10,.pointer (some ⟨bQ,0,none⟩)),(15,.agg #[.bool (decide (aN<0)),.slice aX (limbs (Int.natAbs aN)).length aY,.int .i64 bJ]),(17,.agg #[.bool (decide (aT<0)),.slice dB (limbs (Int.natAbs aT)).length dD,.int .i64 dA]),(19,.agg #[.bool (decide (m5<0)),.slice A7 (limbs (Int.natAbs m5)).length c8,.int .i64 e6])] (Pl.aa rfl (Pl.aa rfl (Pl.aa rfl (Pl.aa rfl (Pl.aa rfl (Pl.aa rfl (Pl.aa rfl Pl.aA))))))) ?_
     exact Hy _ _ ⟨aN,bJ,aX,aY,aT,dA,dB,dD,m5,e6,A7,c8,aK,bQ,(Pl.Ex.trans aM aH),(Un.below dS aH),bz,(Un.below gG aH),bH,u9,fC,(Pl.Cb.ex aV aH),(by omega),(Pl.Cb.ex dV aH),(by omega),(by omega),rfl⟩
   · refine Pl.aU (z:=.agg #[.bool false,.slice none 0 0,.int .i64 0]) (by kernel_rfl) rfl rfl rfl rfl (fun Y hY=>Pl.Ex.trans bS hY) ?_
     intro N4 w7 aH iG aF
     have fE:=Pl.Cb.lt aF
     have iU:=Pl.Ex.size aH
     replace aF:Pl.Cb w7 N4 26 [.bool false,.slice none 0 0,.int .i64 0]:=aF
     have bE:=Pl.Ex.trans bS aH
     refine Pl.af ?_
     refine Pl.aW [(6,.bool false),(7,.bool true),(8,.pointer (some ⟨aK,0,none⟩)),(9,.pointer (some ⟨N4,0,none⟩)),(10,.pointer (some ⟨bQ,0,none⟩)),(15,.agg #[.bool (decide (aN<0)),.slice aX (limbs (Int.natAbs aN)).length aY,.int .i64 bJ]),(17,.agg #[.bool (decide (aT<0)),.slice dB (limbs (Int.natAbs aT)).length dD,.int .i64 dA]),(18,.agg #[.bool uW,.slice Az uJ.length cz,.int .i64 uX])] (Pl.aa rfl (Pl.aa rfl (Pl.aa rfl (Pl.aa rfl (Pl.aa rfl (Pl.aa rfl (Pl.aa rfl (Pl.aa rfl Pl.aA)))))))) ?_
     exact QL _ _ ⟨aN,bJ,aX,aY,aT,dA,dB,dD,aK,N4,bQ,(Pl.Ex.trans aM aH),(Un.below dS aH),bz,(Un.below gG aH),bH,(Pl.Cb.ex aV aH),(by omega),aF,(by omega),(Pl.Cb.ex dV aH),(by omega),(by omega),(by omega),(by omega),rfl⟩
 refine Pl.fP 5 319 (fun l' w'=>∃ (aN:Int) (bJ:Int) (aX:Option Addr) (aY:Nat) (aT:Int) (dA:Int) (dB:Option Addr) (dD:Nat) (gW:Int) (kS:Int) (kT:Option Addr) (kU:Nat) (aK:Nat),Pl.Ex w5 w'∧(Un w' (.slice aX (limbs (Int.natAbs aN)).length aY) (Int.natAbs aN))∧(Dd aN bJ x 8 (-200) 456)∧(Un w' (.slice dB (limbs (Int.natAbs aT)).length dD) (Int.natAbs aT))∧(Dd aT dA y 8 (-200) 456)∧(Un w' (.slice kT (limbs (Int.natAbs gW)).length kU) (Int.natAbs gW))∧(Dd gW kS z 8 (-200) 456)∧(Pl.Cb w' aK 26 [.bool false,.slice none 0 0,.int .i64 0])∧(w5.heap.size≤aK)∧l'=[(6,.bool false),(7,.bool true),(10,.pointer (some ⟨aK,0,none⟩)),(15,.agg #[.bool (decide (aN<0)),.slice aX (limbs (Int.natAbs aN)).length aY,.int .i64 bJ]),(17,.agg #[.bool (decide (aT<0)),.slice dB (limbs (Int.natAbs aT)).length dD,.int .i64 dA]),(19,.agg #[.bool (decide (gW<0)),.slice kT (limbs (Int.natAbs gW)).length kU,.int .i64 kS])]) ?_ fun VY=>?_
 · rintro _ w6 ⟨aN,bJ,aX,aY,aT,dA,dB,dD,gW,kS,kT,kU,aK,aM,dS,bz,gG,bH,uY,jH,aV,jk,rfl⟩
   have jr:=Pl.Ex.size aM
   have bS:=Pl.Ex.trans hS5 aM
   have mO:=bz.lo
   have mP:=bz.hi
   have pE:=bH.lo
   have pF:=bH.hi
   have Hr:=jH.lo
   have Ht:=jH.hi
   have gU:=Pl.Cb.lt aV
   refine Pl.cB [6,7] 4 (by kernel_rfl) (by kernel_rfl) (by kernel_rfl) (Pl.aj ?_ (Pl.aj ?_ Pl.aJ))
   · refine Pl.aU (z:=.agg #[.bool false,.slice none 0 0,.int .i64 0]) (by kernel_rfl) rfl rfl rfl rfl (fun Y hY=>Pl.Ex.trans bS hY) ?_
     intro N4 w7 aH iG aF
     have fE:=Pl.Cb.lt aF
     have iU:=Pl.Ex.size aH
     replace aF:Pl.Cb w7 N4 26 [.bool false,.slice none 0 0,.int .i64 0]:=aF
     have bE:=Pl.Ex.trans bS aH
     refine Pl.af ?_
     refine Pl.aW [(6,.bool false),(7,.bool true),(8,.pointer (some ⟨N4,0,none⟩)),(10,.pointer (some ⟨aK,0,none⟩)),(15,.agg #[.bool (decide (aN<0)),.slice aX (limbs (Int.natAbs aN)).length aY,.int .i64 bJ]),(17,.agg #[.bool (decide (aT<0)),.slice dB (limbs (Int.natAbs aT)).length dD,.int .i64 dA]),(19,.agg #[.bool (decide (gW<0)),.slice kT (limbs (Int.natAbs gW)).length kU,.int .i64 kS])] (Pl.aa rfl (Pl.aa rfl (Pl.aa rfl (Pl.aa rfl (Pl.aa rfl (Pl.aa rfl (Pl.aa rfl Pl.aA))))))) ?_
     exact Hy _ _ ⟨aN,bJ,aX,aY,aT,dA,dB,dD,gW,kS,kT,kU,N4,aK,(Pl.Ex.trans aM aH),(Un.below dS aH),bz,(Un.below gG aH),bH,(Un.below uY aH),jH,aF,(by omega),(Pl.Cb.ex aV aH),(by omega),(by omega),rfl⟩
   · refine Pl.aU (z:=.agg #[.bool false,.slice none 0 0,.int .i64 0]) (by kernel_rfl) rfl rfl rfl rfl (fun Y hY=>Pl.Ex.trans bS hY) ?_
     intro N4 w7 aH iG aF
     have fE:=Pl.Cb.lt aF
     have iU:=Pl.Ex.size aH
     replace aF:Pl.Cb w7 N4 26 [.bool false,.slice none 0 0,.int .i64 0]:=aF
     have bE:=Pl.Ex.trans bS aH
     refine Pl.af ?_
     refine Pl.aW [(6,.bool false),(7,.bool true),(9,.pointer (some ⟨N4,0,none⟩)),(10,.pointer (some ⟨aK,0,none⟩)),(15,.agg #[.bool (decide (aN<0)),.slice aX (limbs (Int.natAbs aN)).length aY,.int .i64 bJ]),(17,.agg #[.bool (decide (aT<0)),.slice dB (limbs (Int.natAbs aT)).length dD,.int .i64 dA]),(19,.agg #[.bool (decide (gW<0)),.slice kT (limbs (Int.natAbs gW)).length kU,.int .i64 kS])] (Pl.aa rfl (Pl.aa rfl (Pl.aa rfl (Pl.aa rfl (Pl.aa rfl (Pl.aa rfl (Pl.aa rfl Pl.aA))))))) ?_
     exact QM _ _ ⟨aN,bJ,aX,aY,aT,dA,dB,dD,gW,kS,kT,kU,N4,aK,(Pl.Ex.trans aM aH),(Un.below dS aH),bz,(Un.below gG aH),bH,(Un.below uY aH),jH,aF,(by omega),(Pl.Cb.ex aV aH),(by omega),(by omega),rfl⟩
 refine Pl.fP 5 223 (fun l' w'=>∃ (aN:Int) (bJ:Int) (aX:Option Addr) (aY:Nat) (aT:Int) (dA:Int) (dB:Option Addr) (dD:Nat) (aK:Nat) (bQ:Nat),Pl.Ex w5 w'∧(Un w' (.slice aX (limbs (Int.natAbs aN)).length aY) (Int.natAbs aN))∧(Dd aN bJ x 8 (-200) 456)∧(Un w' (.slice dB (limbs (Int.natAbs aT)).length dD) (Int.natAbs aT))∧(Dd aT dA y 8 (-200) 456)∧(Pl.Cb w' aK 26 [.bool false,.slice none 0 0,.int .i64 0])∧(w5.heap.size≤aK)∧(Pl.Cb w' bQ 26 [.bool false,.slice none 0 0,.int .i64 0])∧(w5.heap.size≤bQ)∧(aK≠bQ)∧l'=[(6,.bool false),(7,.bool true),(8,.pointer (some ⟨aK,0,none⟩)),(9,.pointer (some ⟨bQ,0,none⟩)),(15,.agg #[.bool (decide (aN<0)),.slice aX (limbs (Int.natAbs aN)).length aY,.int .i64 bJ]),(17,.agg #[.bool (decide (aT<0)),.slice dB (limbs (Int.natAbs aT)).length dD,.int .i64 dA]),(18,.agg #[.bool uW,.slice Az uJ.length cz,.int .i64 uX])]) ?_ fun Hu=>?_
 · rintro _ w6 ⟨aN,bJ,aX,aY,aT,dA,dB,dD,aK,bQ,aM,dS,bz,gG,bH,aV,jk,dV,nY,nZ,rfl⟩
   have jr:=Pl.Ex.size aM
   have bS:=Pl.Ex.trans hS5 aM
   have mO:=bz.lo
   have mP:=bz.hi
   have pE:=bH.lo
   have pF:=bH.hi
   have gU:=Pl.Cb.lt aV
   have lZ:=Pl.Cb.lt dV
   refine Pl.cB [5,8] 4 (by kernel_rfl) (by kernel_rfl) (by kernel_rfl) (Pl.aj ?_ (Pl.aj ?_ Pl.aJ))
   · refine Pl.ah rfl rfl rfl rfl rfl (fun u X=>Pl.enters Tryz.func38 (by kernel_rfl) rfl u X) ?_
     refine Calls.mono (dF _ _ _ _ _ _ (U.below Y7 (Pl.Ex.trans hE1 (Pl.Ex.trans hE2 (Pl.Ex.trans aO (Pl.Ex.trans aR (Pl.Ex.trans aP aM)))))) 8 (by decide)) ?_
     rintro e w7 ⟨v4,rfl,hv4,aH⟩
     rw [Y8] at hv4
     replace hv4:=Dn.le hv4 (Nat.le_refl 8) (show (-200:Int) ≤ -200 by decide) (show _≤(456:Int) by decide)
     obtain ⟨m5,e6,A7,c8,rfl,u9,fC⟩:=hv4
     have sW:=fC.lo
     have sZ:=fC.hi
     have iU:=Pl.Ex.size aH
     have bE:=Pl.Ex.trans bS aH
     refine ⟨_,rfl,bE,?_⟩
     refine Pl.af ?_
     refine Pl.aW [(6,.bool false),(7,.bool true),(8,.pointer (some ⟨aK,0,none⟩)),(9,.pointer (some ⟨bQ,0,none⟩)),(15,.agg #[.bool (decide (aN<0)),.slice aX (limbs (Int.natAbs aN)).length aY,.int .i64 bJ]),(17,.agg #[.bool (decide (aT<0)),.slice dB (limbs (Int.natAbs aT)).length dD,.int .i64 dA]),(19,.agg #[.bool (decide (m5<0)),.slice A7 (limbs (Int.natAbs m5)).length c8,.int .i64 e6])] (Pl.aa rfl (Pl.aa rfl (Pl.aa rfl (Pl.aa rfl (Pl.aa rfl (Pl.aa rfl (Pl.aa rfl Pl.aA))))))) ?_
     exact tF _ _ ⟨aN,bJ,aX,aY,aT,dA,dB,dD,m5,e6,A7,c8,aK,bQ,(Pl.Ex.trans aM aH),(Un.below dS aH),bz,(Un.below gG aH),bH,u9,fC,(Pl.Cb.ex aV aH),(by omega),(Pl.Cb.ex dV aH),(by omega),(by omega),rfl⟩
   · refine Pl.aU (z:=.agg #[.bool false,.slice none 0 0,.int .i64 0]) (by kernel_rfl) rfl rfl rfl rfl (fun Y hY=>Pl.Ex.trans bS hY) ?_
     intro N4 w7 aH iG aF
     have fE:=Pl.Cb.lt aF
     have iU:=Pl.Ex.size aH
     replace aF:Pl.Cb w7 N4 26 [.bool false,.slice none 0 0,.int .i64 0]:=aF
     have bE:=Pl.Ex.trans bS aH
     refine Pl.af ?_
     refine Pl.aW [(6,.bool false),(7,.bool true),(8,.pointer (some ⟨aK,0,none⟩)),(9,.pointer (some ⟨bQ,0,none⟩)),(10,.pointer (some ⟨N4,0,none⟩)),(15,.agg #[.bool (decide (aN<0)),.slice aX (limbs (Int.natAbs aN)).length aY,.int .i64 bJ]),(17,.agg #[.bool (decide (aT<0)),.slice dB (limbs (Int.natAbs aT)).length dD,.int .i64 dA]),(18,.agg #[.bool uW,.slice Az uJ.length cz,.int .i64 uX])] (Pl.aa rfl (Pl.aa rfl (Pl.aa rfl (Pl.aa rfl (Pl.aa rfl (Pl.aa rfl (Pl.aa rfl (Pl.aa rfl Pl.aA)))))))) ?_
     exact QL _ _ ⟨aN,bJ,aX,aY,aT,dA,dB,dD,aK,bQ,N4,(Pl.Ex.trans aM aH),(Un.below dS aH),bz,(Un.below gG aH),bH,(Pl.Cb.ex aV aH),(by omega),(Pl.Cb.ex dV aH),(by omega),aF,(by omega),(by omega),(by omega),(by omega),rfl⟩
 refine Pl.fP 5 191 (fun l' w'=>∃ (aN:Int) (bJ:Int) (aX:Option Addr) (aY:Nat) (aT:Int) (dA:Int) (dB:Option Addr) (dD:Nat) (gW:Int) (kS:Int) (kT:Option Addr) (kU:Nat) (aK:Nat),Pl.Ex w5 w'∧(Un w' (.slice aX (limbs (Int.natAbs aN)).length aY) (Int.natAbs aN))∧(Dd aN bJ x 8 (-200) 456)∧(Un w' (.slice dB (limbs (Int.natAbs aT)).length dD) (Int.natAbs aT))∧(Dd aT dA y 8 (-200) 456)∧(Un w' (.slice kT (limbs (Int.natAbs gW)).length kU) (Int.natAbs gW))∧(Dd gW kS z 8 (-200) 456)∧(Pl.Cb w' aK 26 [.bool false,.slice none 0 0,.int .i64 0])∧(w5.heap.size≤aK)∧l'=[(6,.bool false),(7,.bool true),(9,.pointer (some ⟨aK,0,none⟩)),(15,.agg #[.bool (decide (aN<0)),.slice aX (limbs (Int.natAbs aN)).length aY,.int .i64 bJ]),(17,.agg #[.bool (decide (aT<0)),.slice dB (limbs (Int.natAbs aT)).length dD,.int .i64 dA]),(19,.agg #[.bool (decide (gW<0)),.slice kT (limbs (Int.natAbs gW)).length kU,.int .i64 kS])]) ?_ fun Kv=>?_
 · rintro _ w6 ⟨aN,bJ,aX,aY,aT,dA,dB,dD,gW,kS,kT,kU,aK,aM,dS,bz,gG,bH,uY,jH,aV,jk,rfl⟩
   have jr:=Pl.Ex.size aM
   have bS:=Pl.Ex.trans hS5 aM
   have mO:=bz.lo
   have mP:=bz.hi
   have pE:=bH.lo
   have pF:=bH.hi
   have Hr:=jH.lo
   have Ht:=jH.hi
   have gU:=Pl.Cb.lt aV
   refine Pl.cB [6,8] 4 (by kernel_rfl) (by kernel_rfl) (by kernel_rfl) (Pl.aj ?_ (Pl.aj ?_ Pl.aJ))
   · refine Pl.aU (z:=.agg #[.bool false,.slice none 0 0,.int .i64 0]) (by kernel_rfl) rfl rfl rfl rfl (fun Y hY=>Pl.Ex.trans bS hY) ?_
     intro N4 w7 aH iG aF
     have fE:=Pl.Cb.lt aF
     have iU:=Pl.Ex.size aH
     replace aF:Pl.Cb w7 N4 26 [.bool false,.slice none 0 0,.int .i64 0]:=aF
     have bE:=Pl.Ex.trans bS aH
     refine Pl.af ?_
     refine Pl.aW [(6,.bool false),(7,.bool true),(8,.pointer (some ⟨N4,0,none⟩)),(9,.pointer (some ⟨aK,0,none⟩)),(15,.agg #[.bool (decide (aN<0)),.slice aX (limbs (Int.natAbs aN)).length aY,.int .i64 bJ]),(17,.agg #[.bool (decide (aT<0)),.slice dB (limbs (Int.natAbs aT)).length dD,.int .i64 dA]),(19,.agg #[.bool (decide (gW<0)),.slice kT (limbs (Int.natAbs gW)).length kU,.int .i64 kS])] (Pl.aa rfl (Pl.aa rfl (Pl.aa rfl (Pl.aa rfl (Pl.aa rfl (Pl.aa rfl (Pl.aa rfl Pl.aA))))))) ?_
     exact tF _ _ ⟨aN,bJ,aX,aY,aT,dA,dB,dD,gW,kS,kT,kU,N4,aK,(Pl.Ex.trans aM aH),(Un.below dS aH),bz,(Un.below gG aH),bH,(Un.below uY aH),jH,aF,(by omega),(Pl.Cb.ex aV aH),(by omega),(by omega),rfl⟩
   · refine Pl.aU (z:=.agg #[.bool false,.slice none 0 0,.int .i64 0]) (by kernel_rfl) rfl rfl rfl rfl (fun Y hY=>Pl.Ex.trans bS hY) ?_
     intro N4 w7 aH iG aF
     have fE:=Pl.Cb.lt aF
     have iU:=Pl.Ex.size aH
     replace aF:Pl.Cb w7 N4 26 [.bool false,.slice none 0 0,.int .i64 0]:=aF
     have bE:=Pl.Ex.trans bS aH
     refine Pl.af ?_
     refine Pl.aW [(6,.bool false),(7,.bool true),(9,.pointer (some ⟨aK,0,none⟩)),(10,.pointer (some ⟨N4,0,none⟩)),(15,.agg #[.bool (decide (aN<0)),.slice aX (limbs (Int.natAbs aN)).length aY,.int .i64 bJ]),(17,.agg #[.bool (decide (aT<0)),.slice dB (limbs (Int.natAbs aT)).length dD,.int .i64 dA]),(19,.agg #[.bool (decide (gW<0)),.slice kT (limbs (Int.natAbs gW)).length kU,.int .i64 kS])] (Pl.aa rfl (Pl.aa rfl (Pl.aa rfl (Pl.aa rfl (Pl.aa rfl (Pl.aa rfl (Pl.aa rfl Pl.aA))))))) ?_
     exact QM _ _ ⟨aN,bJ,aX,aY,aT,dA,dB,dD,gW,kS,kT,kU,aK,N4,(Pl.Ex.trans aM aH),(Un.below dS aH),bz,(Un.below gG aH),bH,(Un.below uY aH),jH,(Pl.Cb.ex aV aH),(by omega),aF,(by omega),(by omega),rfl⟩
 refine Pl.fP 5 127 (fun l' w'=>∃ (aN:Int) (bJ:Int) (aX:Option Addr) (aY:Nat) (aT:Int) (dA:Int) (dB:Option Addr) (dD:Nat) (gW:Int) (kS:Int) (kT:Option Addr) (kU:Nat) (aK:Nat),Pl.Ex w5 w'∧(Un w' (.slice aX (limbs (Int.natAbs aN)).length aY) (Int.natAbs aN))∧(Dd aN bJ x 8 (-200) 456)∧(Un w' (.slice dB (limbs (Int.natAbs aT)).length dD) (Int.natAbs aT))∧(Dd aT dA y 8 (-200) 456)∧(Un w' (.slice kT (limbs (Int.natAbs gW)).length kU) (Int.natAbs gW))∧(Dd gW kS z 8 (-200) 456)∧(Pl.Cb w' aK 26 [.bool false,.slice none 0 0,.int .i64 0])∧(w5.heap.size≤aK)∧l'=[(6,.bool false),(7,.bool true),(8,.pointer (some ⟨aK,0,none⟩)),(15,.agg #[.bool (decide (aN<0)),.slice aX (limbs (Int.natAbs aN)).length aY,.int .i64 bJ]),(17,.agg #[.bool (decide (aT<0)),.slice dB (limbs (Int.natAbs aT)).length dD,.int .i64 dA]),(19,.agg #[.bool (decide (gW<0)),.slice kT (limbs (Int.natAbs gW)).length kU,.int .i64 kS])]) ?_ fun Kw=>?_
 · rintro _ w6 ⟨aN,bJ,aX,aY,aT,dA,dB,dD,gW,kS,kT,kU,aK,aM,dS,bz,gG,bH,uY,jH,aV,jk,rfl⟩
   have jr:=Pl.Ex.size aM
   have bS:=Pl.Ex.trans hS5 aM
   have mO:=bz.lo
   have mP:=bz.hi
   have pE:=bH.lo
   have pF:=bH.hi
   have Hr:=jH.lo
   have Ht:=jH.hi
   have gU:=Pl.Cb.lt aV
   refine Pl.cB [7,8] 4 (by kernel_rfl) (by kernel_rfl) (by kernel_rfl) (Pl.aj ?_ (Pl.aj ?_ Pl.aJ))
   · refine Pl.aU (z:=.agg #[.bool false,.slice none 0 0,.int .i64 0]) (by kernel_rfl) rfl rfl rfl rfl (fun Y hY=>Pl.Ex.trans bS hY) ?_
     intro N4 w7 aH iG aF
     have fE:=Pl.Cb.lt aF
     have iU:=Pl.Ex.size aH
     replace aF:Pl.Cb w7 N4 26 [.bool false,.slice none 0 0,.int .i64 0]:=aF
     have bE:=Pl.Ex.trans bS aH
     refine Pl.af ?_
     refine Pl.aW [(6,.bool false),(7,.bool true),(8,.pointer (some ⟨aK,0,none⟩)),(9,.pointer (some ⟨N4,0,none⟩)),(15,.agg #[.bool (decide (aN<0)),.slice aX (limbs (Int.natAbs aN)).length aY,.int .i64 bJ]),(17,.agg #[.bool (decide (aT<0)),.slice dB (limbs (Int.natAbs aT)).length dD,.int .i64 dA]),(19,.agg #[.bool (decide (gW<0)),.slice kT (limbs (Int.natAbs gW)).length kU,.int .i64 kS])] (Pl.aa rfl (Pl.aa rfl (Pl.aa rfl (Pl.aa rfl (Pl.aa rfl (Pl.aa rfl (Pl.aa rfl Pl.aA))))))) ?_
     exact tF _ _ ⟨aN,bJ,aX,aY,aT,dA,dB,dD,gW,kS,kT,kU,aK,N4,(Pl.Ex.trans aM aH),(Un.below dS aH),bz,(Un.below gG aH),bH,(Un.below uY aH),jH,(Pl.Cb.ex aV aH),(by omega),aF,(by omega),(by omega),rfl⟩
   · refine Pl.aU (z:=.agg #[.bool false,.slice none 0 0,.int .i64 0]) (by kernel_rfl) rfl rfl rfl rfl (fun Y hY=>Pl.Ex.trans bS hY) ?_
     intro N4 w7 aH iG aF
     have fE:=Pl.Cb.lt aF
     have iU:=Pl.Ex.size aH
     replace aF:Pl.Cb w7 N4 26 [.bool false,.slice none 0 0,.int .i64 0]:=aF
     have bE:=Pl.Ex.trans bS aH
     refine Pl.af ?_
     refine Pl.aW [(6,.bool false),(7,.bool true),(8,.pointer (some ⟨aK,0,none⟩)),(10,.pointer (some ⟨N4,0,none⟩)),(15,.agg #[.bool (decide (aN<0)),.slice aX (limbs (Int.natAbs aN)).length aY,.int .i64 bJ]),(17,.agg #[.bool (decide (aT<0)),.slice dB (limbs (Int.natAbs aT)).length dD,.int .i64 dA]),(19,.agg #[.bool (decide (gW<0)),.slice kT (limbs (Int.natAbs gW)).length kU,.int .i64 kS])] (Pl.aa rfl (Pl.aa rfl (Pl.aa rfl (Pl.aa rfl (Pl.aa rfl (Pl.aa rfl (Pl.aa rfl Pl.aA))))))) ?_
     exact Hy _ _ ⟨aN,bJ,aX,aY,aT,dA,dB,dD,gW,kS,kT,kU,aK,N4,(Pl.Ex.trans aM aH),(Un.below dS aH),bz,(Un.below gG aH),bH,(Un.below uY aH),jH,(Pl.Cb.ex aV aH),(by omega),aF,(by omega),(by omega),rfl⟩
 refine Pl.fP 6 469 (fun l' w'=>∃ (aK:Nat) (bQ:Nat) (kC:Nat),Pl.Ex w5 w'∧(Pl.Cb w' aK 26 [.bool false,.slice none 0 0,.int .i64 0])∧(w5.heap.size≤aK)∧(Pl.Cb w' bQ 26 [.bool false,.slice none 0 0,.int .i64 0])∧(w5.heap.size≤bQ)∧(Pl.Cb w' kC 26 [.bool false,.slice none 0 0,.int .i64 0])∧(w5.heap.size≤kC)∧(aK≠bQ)∧(aK≠kC)∧(bQ≠kC)∧l'=[(6,.bool false),(7,.bool true),(8,.pointer (some ⟨aK,0,none⟩)),(9,.pointer (some ⟨bQ,0,none⟩)),(10,.pointer (some ⟨kC,0,none⟩)),(14,.agg #[.bool bx0,.slice Ax lu.length cx,.int .i64 oM]),(16,.agg #[.bool qy,.slice Ay oP.length cy,.int .i64 qA]),(18,.agg #[.bool uW,.slice Az uJ.length cz,.int .i64 uX])]) ?_ fun QR=>?_
 · rintro _ w6 ⟨aK,bQ,kC,aM,aV,jk,dV,nY,uF,QG,nZ,QH,QI,rfl⟩
   have jr:=Pl.Ex.size aM
   have bS:=Pl.Ex.trans hS5 aM
   have gU:=Pl.Cb.lt aV
   have lZ:=Pl.Cb.lt dV
   have M7:=Pl.Cb.lt uF
   refine Pl.aZ [(false,1,469),(false,3,471),(false,5,479),(false,9,511),(false,10,1023),(false,11,2047)] 4095 0 Pl.az (by kernel_rfl) (by kernel_rfl) (by kernel_rfl) ?_
   refine Pl.ah rfl rfl rfl rfl rfl (fun u X=>Pl.enters Tryz.func38 (by kernel_rfl) rfl u X) ?_
   refine Calls.mono (dF _ _ _ _ _ _ (U.below zM (Pl.Ex.trans hE1 (Pl.Ex.trans hE2 (Pl.Ex.trans aO (Pl.Ex.trans aR (Pl.Ex.trans aP aM)))))) 8 (by decide)) ?_
   rintro e w7 ⟨v4,rfl,hv4,aH⟩
   rw [CJ] at hv4
   replace hv4:=Dn.le hv4 (Nat.le_refl 8) (show (-200:Int) ≤ -200 by decide) (show _≤(456:Int) by decide)
   obtain ⟨m5,e6,A7,c8,rfl,u9,fC⟩:=hv4
   have sW:=fC.lo
   have sZ:=fC.hi
   have iU:=Pl.Ex.size aH
   have bE:=Pl.Ex.trans bS aH
   refine ⟨_,rfl,bE,?_⟩
   refine Pl.ah rfl rfl rfl rfl rfl (fun u X=>Pl.enters Tryz.func38 (by kernel_rfl) rfl u X) ?_
   refine Calls.mono (dF _ _ _ _ _ _ (U.below IB (Pl.Ex.trans hE1 (Pl.Ex.trans hE2 (Pl.Ex.trans aO (Pl.Ex.trans aR (Pl.Ex.trans aP (Pl.Ex.trans aM aH))))))) 8 (by decide)) ?_
   rintro e w8 ⟨v11,rfl,kL,bu⟩
   rw [Ho] at kL
   replace kL:=Dn.le kL (Nat.le_refl 8) (show (-200:Int) ≤ -200 by decide) (show _≤(456:Int) by decide)
   obtain ⟨m12,e13,qK,c15,rfl,u16,kG⟩:=kL
   have LF:=kG.lo
   have LG:=kG.hi
   have mh:=Pl.Ex.size bu
   have bD:=Pl.Ex.trans bE bu
   refine ⟨_,rfl,bD,?_⟩
   refine Pl.ah rfl rfl rfl rfl rfl (fun u X=>Pl.enters Tryz.func38 (by kernel_rfl) rfl u X) ?_
   refine Calls.mono (dF _ _ _ _ _ _ (U.below Y7 (Pl.Ex.trans hE1 (Pl.Ex.trans hE2 (Pl.Ex.trans aO (Pl.Ex.trans aR (Pl.Ex.trans aP (Pl.Ex.trans aM (Pl.Ex.trans aH bu)))))))) 8 (by decide)) ?_
   rintro e w9 ⟨v18,rfl,Kt,dh⟩
   rw [Y8] at Kt
   replace Kt:=Dn.le Kt (Nat.le_refl 8) (show (-200:Int) ≤ -200 by decide) (show _≤(456:Int) by decide)
   obtain ⟨m19,e20,Dg,Dh,rfl,u23,OU⟩:=Kt
   have af6:=OU.lo
   have af7:=OU.hi
   have pG:=Pl.Ex.size dh
   have bK:=Pl.Ex.trans bD dh
   refine ⟨_,rfl,bK,?_⟩
   refine Pl.bg (new:=[.bool (decide (m5<0)),.slice A7 (limbs (Int.natAbs m5)).length c8,.int .i64 e6]) (Pl.Cb.ex aV (Pl.Ex.trans aH (Pl.Ex.trans bu dh))) (by kernel_rfl) rfl (by simp [Value.oneCell']) rfl rfl rfl rfl rfl rfl (fun Y hY=>Pl.Ex.xs bK hY (by omega)) ?_
   intro qD eU fU
   have bf:=Pl.Ex.xs (Pl.Ex.trans aM (Pl.Ex.trans aH (Pl.Ex.trans bu dh))) eU (by omega)
   have mD:=Pl.Xs.size eU
   have gK:=Pl.Ex.xs bK eU (by omega)
   have dY:=Pl.Cb.xs (Pl.Cb.ex dV (Pl.Ex.trans aH (Pl.Ex.trans bu dh))) eU (by simp;omega)
   have Be:=Pl.Cb.xs (Pl.Cb.ex uF (Pl.Ex.trans aH (Pl.Ex.trans bu dh))) eU (by simp;omega)
   refine Pl.bg (new:=[.bool (decide (m12<0)),.slice qK (limbs (Int.natAbs m12)).length c15,.int .i64 e13]) dY (by kernel_rfl) rfl (by simp [Value.oneCell']) rfl rfl rfl rfl rfl rfl (fun Y hY=>Pl.Ex.xs gK hY (by omega)) ?_
   intro uV jI ji
   have bI:=Pl.Ex.xs bf jI (by omega)
   have qx:=Pl.Xs.size jI
   have iT:=Pl.Ex.xs gK jI (by omega)
   have iF:=Pl.Cb.xs fU jI (by simp;omega)
   have pg:=Pl.Cb.xs Be jI (by simp;omega)
   refine Pl.bg (new:=[.bool (decide (m19<0)),.slice Dg (limbs (Int.natAbs m19)).length Dh,.int .i64 e20]) pg (by kernel_rfl) rfl (by simp [Value.oneCell']) rfl rfl rfl rfl rfl rfl (fun Y hY=>Pl.Ex.xs iT hY (by omega)) ?_
   intro yu fD Bf
   have bY:=Pl.Ex.xs bI fD (by omega)
   have qQ:=Pl.Xs.size fD
   have jl:=Pl.Ex.xs iT fD (by omega)
   have uQ:=Pl.Cb.xs iF fD (by simp;omega)
   have uR:=Pl.Cb.xs ji fD (by simp;omega)
   refine Pl.af ?_
   have k25:=Un.xs (Un.below u9 (Pl.Ex.trans bu dh)) eU (Pl.Cb.ex aV (Pl.Ex.trans aH (Pl.Ex.trans bu dh))) (by simp)
   have k26:=Un.xs k25 jI dY (by simp)
   have k27:=Un.xs k26 fD pg (by simp)
   have k28:=Un.xs (Un.below u16 dh) eU (Pl.Cb.ex aV (Pl.Ex.trans aH (Pl.Ex.trans bu dh))) (by simp)
   have Tz:=Un.xs k28 jI dY (by simp)
   have k30:=Un.xs Tz fD pg (by simp)
   have k31:=Un.xs u23 eU (Pl.Cb.ex aV (Pl.Ex.trans aH (Pl.Ex.trans bu dh))) (by simp)
   have k32:=Un.xs k31 jI dY (by simp)
   have k33:=Un.xs k32 fD pg (by simp)
   refine Pl.aW [(6,.bool false),(7,.bool true),(8,.pointer (some ⟨aK,0,none⟩)),(9,.pointer (some ⟨bQ,0,none⟩)),(10,.pointer (some ⟨kC,0,none⟩))] (Pl.aa rfl (Pl.aa rfl (Pl.aa rfl (Pl.aa rfl (Pl.aa rfl Pl.aA))))) ?_
   exact Ea _ _ ⟨m5,e6,A7,c8,m12,e13,qK,c15,m19,e20,Dg,Dh,aK,bQ,kC,bY,k27,fC,k30,kG,k33,OU,uQ,(by omega),uR,(by omega),Bf,(by omega),(by omega),(by omega),(by omega),rfl⟩
 refine Pl.fP 6 407 (fun l' w'=>∃ (aN:Int) (bJ:Int) (aX:Option Addr) (aY:Nat) (aK:Nat) (bQ:Nat),Pl.Ex w5 w'∧(Un w' (.slice aX (limbs (Int.natAbs aN)).length aY) (Int.natAbs aN))∧(Dd aN bJ x 8 (-200) 456)∧(Pl.Cb w' aK 26 [.bool false,.slice none 0 0,.int .i64 0])∧(w5.heap.size≤aK)∧(Pl.Cb w' bQ 26 [.bool false,.slice none 0 0,.int .i64 0])∧(w5.heap.size≤bQ)∧(aK≠bQ)∧l'=[(6,.bool false),(7,.bool true),(9,.pointer (some ⟨aK,0,none⟩)),(10,.pointer (some ⟨bQ,0,none⟩)),(15,.agg #[.bool (decide (aN<0)),.slice aX (limbs (Int.natAbs aN)).length aY,.int .i64 bJ]),(16,.agg #[.bool qy,.slice Ay oP.length cy,.int .i64 qA]),(18,.agg #[.bool uW,.slice Az uJ.length cz,.int .i64 uX])]) ?_ fun QS=>?_
 · rintro _ w6 ⟨aN,bJ,aX,aY,aK,bQ,aM,dS,bz,aV,jk,dV,nY,nZ,rfl⟩
   have jr:=Pl.Ex.size aM
   have bS:=Pl.Ex.trans hS5 aM
   have mO:=bz.lo
   have mP:=bz.hi
   have gU:=Pl.Cb.lt aV
   have lZ:=Pl.Cb.lt dV
   refine Pl.cB [3,6] 5 (by kernel_rfl) (by kernel_rfl) (by kernel_rfl) (Pl.aj ?_ (Pl.aj ?_ Pl.aJ))
   · refine Pl.ah rfl rfl rfl rfl rfl (fun u X=>Pl.enters Tryz.func38 (by kernel_rfl) rfl u X) ?_
     refine Calls.mono (dF _ _ _ _ _ _ (U.below IB (Pl.Ex.trans hE1 (Pl.Ex.trans hE2 (Pl.Ex.trans aO (Pl.Ex.trans aR (Pl.Ex.trans aP aM)))))) 8 (by decide)) ?_
     rintro e w7 ⟨v4,rfl,hv4,aH⟩
     rw [Ho] at hv4
     replace hv4:=Dn.le hv4 (Nat.le_refl 8) (show (-200:Int) ≤ -200 by decide) (show _≤(456:Int) by decide)
     obtain ⟨m5,e6,A7,c8,rfl,u9,fC⟩:=hv4
     have sW:=fC.lo
     have sZ:=fC.hi
     have iU:=Pl.Ex.size aH
     have bE:=Pl.Ex.trans bS aH
     refine ⟨_,rfl,bE,?_⟩
     refine Pl.af ?_
     refine Pl.aW [(6,.bool false),(7,.bool true),(9,.pointer (some ⟨aK,0,none⟩)),(10,.pointer (some ⟨bQ,0,none⟩)),(15,.agg #[.bool (decide (aN<0)),.slice aX (limbs (Int.natAbs aN)).length aY,.int .i64 bJ]),(17,.agg #[.bool (decide (m5<0)),.slice A7 (limbs (Int.natAbs m5)).length c8,.int .i64 e6]),(18,.agg #[.bool uW,.slice Az uJ.length cz,.int .i64 uX])] (Pl.aa rfl (Pl.aa rfl (Pl.aa rfl (Pl.aa rfl (Pl.aa rfl (Pl.aa rfl (Pl.aa rfl Pl.aA))))))) ?_
     exact QO _ _ ⟨aN,bJ,aX,aY,m5,e6,A7,c8,aK,bQ,(Pl.Ex.trans aM aH),(Un.below dS aH),bz,u9,fC,(Pl.Cb.ex aV aH),(by omega),(Pl.Cb.ex dV aH),(by omega),(by omega),rfl⟩
   · refine Pl.aU (z:=.agg #[.bool false,.slice none 0 0,.int .i64 0]) (by kernel_rfl) rfl rfl rfl rfl (fun Y hY=>Pl.Ex.trans bS hY) ?_
     intro N4 w7 aH iG aF
     have fE:=Pl.Cb.lt aF
     have iU:=Pl.Ex.size aH
     replace aF:Pl.Cb w7 N4 26 [.bool false,.slice none 0 0,.int .i64 0]:=aF
     have bE:=Pl.Ex.trans bS aH
     refine Pl.af ?_
     refine Pl.aW [(6,.bool false),(7,.bool true),(8,.pointer (some ⟨N4,0,none⟩)),(9,.pointer (some ⟨aK,0,none⟩)),(10,.pointer (some ⟨bQ,0,none⟩)),(15,.agg #[.bool (decide (aN<0)),.slice aX (limbs (Int.natAbs aN)).length aY,.int .i64 bJ]),(16,.agg #[.bool qy,.slice Ay oP.length cy,.int .i64 qA]),(18,.agg #[.bool uW,.slice Az uJ.length cz,.int .i64 uX])] (Pl.aa rfl (Pl.aa rfl (Pl.aa rfl (Pl.aa rfl (Pl.aa rfl (Pl.aa rfl (Pl.aa rfl (Pl.aa rfl Pl.aA)))))))) ?_
     exact QN _ _ ⟨aN,bJ,aX,aY,N4,aK,bQ,(Pl.Ex.trans aM aH),(Un.below dS aH),bz,aF,(by omega),(Pl.Cb.ex aV aH),(by omega),(Pl.Cb.ex dV aH),(by omega),(by omega),(by omega),(by omega),rfl⟩
 refine Pl.fP 6 343 (fun l' w'=>∃ (aN:Int) (bJ:Int) (aX:Option Addr) (aY:Nat) (aK:Nat) (bQ:Nat),Pl.Ex w5 w'∧(Un w' (.slice aX (limbs (Int.natAbs aN)).length aY) (Int.natAbs aN))∧(Dd aN bJ x 8 (-200) 456)∧(Pl.Cb w' aK 26 [.bool false,.slice none 0 0,.int .i64 0])∧(w5.heap.size≤aK)∧(Pl.Cb w' bQ 26 [.bool false,.slice none 0 0,.int .i64 0])∧(w5.heap.size≤bQ)∧(aK≠bQ)∧l'=[(6,.bool false),(7,.bool true),(8,.pointer (some ⟨aK,0,none⟩)),(10,.pointer (some ⟨bQ,0,none⟩)),(15,.agg #[.bool (decide (aN<0)),.slice aX (limbs (Int.natAbs aN)).length aY,.int .i64 bJ]),(16,.agg #[.bool qy,.slice Ay oP.length cy,.int .i64 qA]),(18,.agg #[.bool uW,.slice Az uJ.length cz,.int .i64 uX])]) ?_ fun H6=>?_
 · rintro _ w6 ⟨aN,bJ,aX,aY,aK,bQ,aM,dS,bz,aV,jk,dV,nY,nZ,rfl⟩
   have jr:=Pl.Ex.size aM
   have bS:=Pl.Ex.trans hS5 aM
   have mO:=bz.lo
   have mP:=bz.hi
   have gU:=Pl.Cb.lt aV
   have lZ:=Pl.Cb.lt dV
   refine Pl.cB [3,7] 5 (by kernel_rfl) (by kernel_rfl) (by kernel_rfl) (Pl.aj ?_ (Pl.aj ?_ Pl.aJ))
   · refine Pl.ah rfl rfl rfl rfl rfl (fun u X=>Pl.enters Tryz.func38 (by kernel_rfl) rfl u X) ?_
     refine Calls.mono (dF _ _ _ _ _ _ (U.below IB (Pl.Ex.trans hE1 (Pl.Ex.trans hE2 (Pl.Ex.trans aO (Pl.Ex.trans aR (Pl.Ex.trans aP aM)))))) 8 (by decide)) ?_
     rintro e w7 ⟨v4,rfl,hv4,aH⟩
     rw [Ho] at hv4
     replace hv4:=Dn.le hv4 (Nat.le_refl 8) (show (-200:Int) ≤ -200 by decide) (show _≤(456:Int) by decide)
     obtain ⟨m5,e6,A7,c8,rfl,u9,fC⟩:=hv4
     have sW:=fC.lo
     have sZ:=fC.hi
     have iU:=Pl.Ex.size aH
     have bE:=Pl.Ex.trans bS aH
     refine ⟨_,rfl,bE,?_⟩
     refine Pl.af ?_
     refine Pl.aW [(6,.bool false),(7,.bool true),(8,.pointer (some ⟨aK,0,none⟩)),(10,.pointer (some ⟨bQ,0,none⟩)),(15,.agg #[.bool (decide (aN<0)),.slice aX (limbs (Int.natAbs aN)).length aY,.int .i64 bJ]),(17,.agg #[.bool (decide (m5<0)),.slice A7 (limbs (Int.natAbs m5)).length c8,.int .i64 e6]),(18,.agg #[.bool uW,.slice Az uJ.length cz,.int .i64 uX])] (Pl.aa rfl (Pl.aa rfl (Pl.aa rfl (Pl.aa rfl (Pl.aa rfl (Pl.aa rfl (Pl.aa rfl Pl.aA))))))) ?_
     exact Hz _ _ ⟨aN,bJ,aX,aY,m5,e6,A7,c8,aK,bQ,(Pl.Ex.trans aM aH),(Un.below dS aH),bz,u9,fC,(Pl.Cb.ex aV aH),(by omega),(Pl.Cb.ex dV aH),(by omega),(by omega),rfl⟩
   · refine Pl.aU (z:=.agg #[.bool false,.slice none 0 0,.int .i64 0]) (by kernel_rfl) rfl rfl rfl rfl (fun Y hY=>Pl.Ex.trans bS hY) ?_
     intro N4 w7 aH iG aF
     have fE:=Pl.Cb.lt aF
     have iU:=Pl.Ex.size aH
     replace aF:Pl.Cb w7 N4 26 [.bool false,.slice none 0 0,.int .i64 0]:=aF
     have bE:=Pl.Ex.trans bS aH
     refine Pl.af ?_
     refine Pl.aW [(6,.bool false),(7,.bool true),(8,.pointer (some ⟨aK,0,none⟩)),(9,.pointer (some ⟨N4,0,none⟩)),(10,.pointer (some ⟨bQ,0,none⟩)),(15,.agg #[.bool (decide (aN<0)),.slice aX (limbs (Int.natAbs aN)).length aY,.int .i64 bJ]),(16,.agg #[.bool qy,.slice Ay oP.length cy,.int .i64 qA]),(18,.agg #[.bool uW,.slice Az uJ.length cz,.int .i64 uX])] (Pl.aa rfl (Pl.aa rfl (Pl.aa rfl (Pl.aa rfl (Pl.aa rfl (Pl.aa rfl (Pl.aa rfl (Pl.aa rfl Pl.aA)))))))) ?_
     exact QN _ _ ⟨aN,bJ,aX,aY,aK,N4,bQ,(Pl.Ex.trans aM aH),(Un.below dS aH),bz,(Pl.Cb.ex aV aH),(by omega),aF,(by omega),(Pl.Cb.ex dV aH),(by omega),(by omega),(by omega),(by omega),rfl⟩
 refine Pl.fP 6 287 (fun l' w'=>∃ (aN:Int) (bJ:Int) (aX:Option Addr) (aY:Nat) (aT:Int) (dA:Int) (dB:Option Addr) (dD:Nat) (aK:Nat),Pl.Ex w5 w'∧(Un w' (.slice aX (limbs (Int.natAbs aN)).length aY) (Int.natAbs aN))∧(Dd aN bJ x 8 (-200) 456)∧(Un w' (.slice dB (limbs (Int.natAbs aT)).length dD) (Int.natAbs aT))∧(Dd aT dA y 8 (-200) 456)∧(Pl.Cb w' aK 26 [.bool false,.slice none 0 0,.int .i64 0])∧(w5.heap.size≤aK)∧l'=[(6,.bool false),(7,.bool true),(10,.pointer (some ⟨aK,0,none⟩)),(15,.agg #[.bool (decide (aN<0)),.slice aX (limbs (Int.natAbs aN)).length aY,.int .i64 bJ]),(17,.agg #[.bool (decide (aT<0)),.slice dB (limbs (Int.natAbs aT)).length dD,.int .i64 dA]),(18,.agg #[.bool uW,.slice Az uJ.length cz,.int .i64 uX])]) ?_ fun VZ=>?_
 · rintro _ w6 ⟨aN,bJ,aX,aY,aT,dA,dB,dD,aK,aM,dS,bz,gG,bH,aV,jk,rfl⟩
   have jr:=Pl.Ex.size aM
   have bS:=Pl.Ex.trans hS5 aM
   have mO:=bz.lo
   have mP:=bz.hi
   have pE:=bH.lo
   have pF:=bH.hi
   have gU:=Pl.Cb.lt aV
   refine Pl.cB [5,6,7] 5 (by kernel_rfl) (by kernel_rfl) (by kernel_rfl) (Pl.aj ?_ (Pl.aj ?_ (Pl.aj ?_ Pl.aJ)))
   · refine Pl.ah rfl rfl rfl rfl rfl (fun u X=>Pl.enters Tryz.func38 (by kernel_rfl) rfl u X) ?_
     refine Calls.mono (dF _ _ _ _ _ _ (U.below Y7 (Pl.Ex.trans hE1 (Pl.Ex.trans hE2 (Pl.Ex.trans aO (Pl.Ex.trans aR (Pl.Ex.trans aP aM)))))) 8 (by decide)) ?_
     rintro e w7 ⟨v4,rfl,hv4,aH⟩
     rw [Y8] at hv4
     replace hv4:=Dn.le hv4 (Nat.le_refl 8) (show (-200:Int) ≤ -200 by decide) (show _≤(456:Int) by decide)
     obtain ⟨m5,e6,A7,c8,rfl,u9,fC⟩:=hv4
     have sW:=fC.lo
     have sZ:=fC.hi
     have iU:=Pl.Ex.size aH
     have bE:=Pl.Ex.trans bS aH
     refine ⟨_,rfl,bE,?_⟩
     refine Pl.af ?_
     refine Pl.aW [(6,.bool false),(7,.bool true),(10,.pointer (some ⟨aK,0,none⟩)),(15,.agg #[.bool (decide (aN<0)),.slice aX (limbs (Int.natAbs aN)).length aY,.int .i64 bJ]),(17,.agg #[.bool (decide (aT<0)),.slice dB (limbs (Int.natAbs aT)).length dD,.int .i64 dA]),(19,.agg #[.bool (decide (m5<0)),.slice A7 (limbs (Int.natAbs m5)).length c8,.int .i64 e6])] (Pl.aa rfl (Pl.aa rfl (Pl.aa rfl (Pl.aa rfl (Pl.aa rfl (Pl.aa rfl Pl.aA)))))) ?_
     exact VY _ _ ⟨aN,bJ,aX,aY,aT,dA,dB,dD,m5,e6,A7,c8,aK,(Pl.Ex.trans aM aH),(Un.below dS aH),bz,(Un.below gG aH),bH,u9,fC,(Pl.Cb.ex aV aH),(by omega),rfl⟩
   · refine Pl.aU (z:=.agg #[.bool false,.slice none 0 0,.int .i64 0]) (by kernel_rfl) rfl rfl rfl rfl (fun Y hY=>Pl.Ex.trans bS hY) ?_
     intro N4 w7 aH iG aF
     have fE:=Pl.Cb.lt aF
     have iU:=Pl.Ex.size aH
     replace aF:Pl.Cb w7 N4 26 [.bool false,.slice none 0 0,.int .i64 0]:=aF
     have bE:=Pl.Ex.trans bS aH
     refine Pl.af ?_
     refine Pl.aW [(6,.bool false),(7,.bool true),(8,.pointer (some ⟨N4,0,none⟩)),(10,.pointer (some ⟨aK,0,none⟩)),(15,.agg #[.bool (decide (aN<0)),.slice aX (limbs (Int.natAbs aN)).length aY,.int .i64 bJ]),(17,.agg #[.bool (decide (aT<0)),.slice dB (limbs (Int.natAbs aT)).length dD,.int .i64 dA]),(18,.agg #[.bool uW,.slice Az uJ.length cz,.int .i64 uX])] (Pl.aa rfl (Pl.aa rfl (Pl.aa rfl (Pl.aa rfl (Pl.aa rfl (Pl.aa rfl (Pl.aa rfl Pl.aA))))))) ?_
     exact Hz _ _ ⟨aN,bJ,aX,aY,aT,dA,dB,dD,N4,aK,(Pl.Ex.trans aM aH),(Un.below dS aH),bz,(Un.below gG aH),bH,aF,(by omega),(Pl.Cb.ex aV aH),(by omega),(by omega),rfl⟩
   · refine Pl.aU (z:=.agg #[.bool false,.slice none 0 0,.int .i64 0]) (by kernel_rfl) rfl rfl rfl rfl (fun Y hY=>Pl.Ex.trans bS hY) ?_
     intro N4 w7 aH iG aF
     have fE:=Pl.Cb.lt aF
     have iU:=Pl.Ex.size aH
     replace aF:Pl.Cb w7 N4 26 [.bool false,.slice none 0 0,.int .i64 0]:=aF
     have bE:=Pl.Ex.trans bS aH
     refine Pl.af ?_
     refine Pl.aW [(6,.bool false),(7,.bool true),(9,.pointer (some ⟨N4,0,none⟩)),(10,.pointer (some ⟨aK,0,none⟩)),(15,.agg #[.bool (decide (aN<0)),.slice aX (limbs (Int.natAbs aN)).length aY,.int .i64 bJ]),(17,.agg #[.bool (decide (aT<0)),.slice dB (limbs (Int.natAbs aT)).length dD,.int .i64 dA]),(18,.agg #[.bool uW,.slice Az uJ.length cz,.int .i64 uX])] (Pl.aa rfl (Pl.aa rfl (Pl.aa rfl (Pl.aa rfl (Pl.aa rfl (Pl.aa rfl (Pl.aa rfl Pl.aA))))))) ?_
     exact QO _ _ ⟨aN,bJ,aX,aY,aT,dA,dB,dD,N4,aK,(Pl.Ex.trans aM aH),(Un.below dS aH),bz,(Un.below gG aH),bH,aF,(by omega),(Pl.Cb.ex aV aH),(by omega),(by omega),rfl⟩
 refine Pl.fP 6 215 (fun l' w'=>∃ (aN:Int) (bJ:Int) (aX:Option Addr) (aY:Nat) (aK:Nat) (bQ:Nat),Pl.Ex w5 w'∧(Un w' (.slice aX (limbs (Int.natAbs aN)).length aY) (Int.natAbs aN))∧(Dd aN bJ x 8 (-200) 456)∧(Pl.Cb w' aK 26 [.bool false,.slice none 0 0,.int .i64 0])∧(w5.heap.size≤aK)∧(Pl.Cb w' bQ 26 [.bool false,.slice none 0 0,.int .i64 0])∧(w5.heap.size≤bQ)∧(aK≠bQ)∧l'=[(6,.bool false),(7,.bool true),(8,.pointer (some ⟨aK,0,none⟩)),(9,.pointer (some ⟨bQ,0,none⟩)),(15,.agg #[.bool (decide (aN<0)),.slice aX (limbs (Int.natAbs aN)).length aY,.int .i64 bJ]),(16,.agg #[.bool qy,.slice Ay oP.length cy,.int .i64 qA]),(18,.agg #[.bool uW,.slice Az uJ.length cz,.int .i64 uX])]) ?_ fun QT=>?_
 · rintro _ w6 ⟨aN,bJ,aX,aY,aK,bQ,aM,dS,bz,aV,jk,dV,nY,nZ,rfl⟩
   have jr:=Pl.Ex.size aM
   have bS:=Pl.Ex.trans hS5 aM
   have mO:=bz.lo
   have mP:=bz.hi
   have gU:=Pl.Cb.lt aV
   have lZ:=Pl.Cb.lt dV
   refine Pl.cB [3,8] 5 (by kernel_rfl) (by kernel_rfl) (by kernel_rfl) (Pl.aj ?_ (Pl.aj ?_ Pl.aJ))
   · refine Pl.ah rfl rfl rfl rfl rfl (fun u X=>Pl.enters Tryz.func38 (by kernel_rfl) rfl u X) ?_
     refine Calls.mono (dF _ _ _ _ _ _ (U.below IB (Pl.Ex.trans hE1 (Pl.Ex.trans hE2 (Pl.Ex.trans aO (Pl.Ex.trans aR (Pl.Ex.trans aP aM)))))) 8 (by decide)) ?_
     rintro e w7 ⟨v4,rfl,hv4,aH⟩
     rw [Ho] at hv4
     replace hv4:=Dn.le hv4 (Nat.le_refl 8) (show (-200:Int) ≤ -200 by decide) (show _≤(456:Int) by decide)
     obtain ⟨m5,e6,A7,c8,rfl,u9,fC⟩:=hv4
     have sW:=fC.lo
     have sZ:=fC.hi
     have iU:=Pl.Ex.size aH
     have bE:=Pl.Ex.trans bS aH
     refine ⟨_,rfl,bE,?_⟩
     refine Pl.af ?_
     refine Pl.aW [(6,.bool false),(7,.bool true),(8,.pointer (some ⟨aK,0,none⟩)),(9,.pointer (some ⟨bQ,0,none⟩)),(15,.agg #[.bool (decide (aN<0)),.slice aX (limbs (Int.natAbs aN)).length aY,.int .i64 bJ]),(17,.agg #[.bool (decide (m5<0)),.slice A7 (limbs (Int.natAbs m5)).length c8,.int .i64 e6]),(18,.agg #[.bool uW,.slice Az uJ.length cz,.int .i64 uX])] (Pl.aa rfl (Pl.aa rfl (Pl.aa rfl (Pl.aa rfl (Pl.aa rfl (Pl.aa rfl (Pl.aa rfl Pl.aA))))))) ?_
     exact Hu _ _ ⟨aN,bJ,aX,aY,m5,e6,A7,c8,aK,bQ,(Pl.Ex.trans aM aH),(Un.below dS aH),bz,u9,fC,(Pl.Cb.ex aV aH),(by omega),(Pl.Cb.ex dV aH),(by omega),(by omega),rfl⟩
   · refine Pl.aU (z:=.agg #[.bool false,.slice none 0 0,.int .i64 0]) (by kernel_rfl) rfl rfl rfl rfl (fun Y hY=>Pl.Ex.trans bS hY) ?_
     intro N4 w7 aH iG aF
     have fE:=Pl.Cb.lt aF
     have iU:=Pl.Ex.size aH
     replace aF:Pl.Cb w7 N4 26 [.bool false,.slice none 0 0,.int .i64 0]:=aF
     have bE:=Pl.Ex.trans bS aH
     refine Pl.af ?_
     refine Pl.aW [(6,.bool false),(7,.bool true),(8,.pointer (some ⟨aK,0,none⟩)),(9,.pointer (some ⟨bQ,0,none⟩)),(10,.pointer (some ⟨N4,0,none⟩)),(15,.agg #[.bool (decide (aN<0)),.slice aX (limbs (Int.natAbs aN)).length aY,.int .i64 bJ]),(16,.agg #[.bool qy,.slice Ay oP.length cy,.int .i64 qA]),(18,.agg #[.bool uW,.slice Az uJ.length cz,.int .i64 uX])] (Pl.aa rfl (Pl.aa rfl (Pl.aa rfl (Pl.aa rfl (Pl.aa rfl (Pl.aa rfl (Pl.aa rfl (Pl.aa rfl Pl.aA)))))))) ?_
     exact QN _ _ ⟨aN,bJ,aX,aY,aK,bQ,N4,(Pl.Ex.trans aM aH),(Un.below dS aH),bz,(Pl.Cb.ex aV aH),(by omega),(Pl.Cb.ex dV aH),(by omega),aF,(by omega),(by omega),(by omega),(by omega),rfl⟩
 refine Pl.fP 6 159 (fun l' w'=>∃ (aN:Int) (bJ:Int) (aX:Option Addr) (aY:Nat) (aT:Int) (dA:Int) (dB:Option Addr) (dD:Nat) (aK:Nat),Pl.Ex w5 w'∧(Un w' (.slice aX (limbs (Int.natAbs aN)).length aY) (Int.natAbs aN))∧(Dd aN bJ x 8 (-200) 456)∧(Un w' (.slice dB (limbs (Int.natAbs aT)).length dD) (Int.natAbs aT))∧(Dd aT dA y 8 (-200) 456)∧(Pl.Cb w' aK 26 [.bool false,.slice none 0 0,.int .i64 0])∧(w5.heap.size≤aK)∧l'=[(6,.bool false),(7,.bool true),(9,.pointer (some ⟨aK,0,none⟩)),(15,.agg #[.bool (decide (aN<0)),.slice aX (limbs (Int.natAbs aN)).length aY,.int .i64 bJ]),(17,.agg #[.bool (decide (aT<0)),.slice dB (limbs (Int.natAbs aT)).length dD,.int .i64 dA]),(18,.agg #[.bool uW,.slice Az uJ.length cz,.int .i64 uX])]) ?_ fun Ky=>?_
 · rintro _ w6 ⟨aN,bJ,aX,aY,aT,dA,dB,dD,aK,aM,dS,bz,gG,bH,aV,jk,rfl⟩
   have jr:=Pl.Ex.size aM
   have bS:=Pl.Ex.trans hS5 aM
   have mO:=bz.lo
   have mP:=bz.hi
   have pE:=bH.lo
   have pF:=bH.hi
   have gU:=Pl.Cb.lt aV
   refine Pl.cB [5,6,8] 5 (by kernel_rfl) (by kernel_rfl) (by kernel_rfl) (Pl.aj ?_ (Pl.aj ?_ (Pl.aj ?_ Pl.aJ)))
   · refine Pl.ah rfl rfl rfl rfl rfl (fun u X=>Pl.enters Tryz.func38 (by kernel_rfl) rfl u X) ?_
     refine Calls.mono (dF _ _ _ _ _ _ (U.below Y7 (Pl.Ex.trans hE1 (Pl.Ex.trans hE2 (Pl.Ex.trans aO (Pl.Ex.trans aR (Pl.Ex.trans aP aM)))))) 8 (by decide)) ?_
     rintro e w7 ⟨v4,rfl,hv4,aH⟩
     rw [Y8] at hv4
     replace hv4:=Dn.le hv4 (Nat.le_refl 8) (show (-200:Int) ≤ -200 by decide) (show _≤(456:Int) by decide)
     obtain ⟨m5,e6,A7,c8,rfl,u9,fC⟩:=hv4
     have sW:=fC.lo
     have sZ:=fC.hi
     have iU:=Pl.Ex.size aH
     have bE:=Pl.Ex.trans bS aH
     refine ⟨_,rfl,bE,?_⟩
     refine Pl.af ?_
     refine Pl.aW [(6,.bool false),(7,.bool true),(9,.pointer (some ⟨aK,0,none⟩)),(15,.agg #[.bool (decide (aN<0)),.slice aX (limbs (Int.natAbs aN)).length aY,.int .i64 bJ]),(17,.agg #[.bool (decide (aT<0)),.slice dB (limbs (Int.natAbs aT)).length dD,.int .i64 dA]),(19,.agg #[.bool (decide (m5<0)),.slice A7 (limbs (Int.natAbs m5)).length c8,.int .i64 e6])] (Pl.aa rfl (Pl.aa rfl (Pl.aa rfl (Pl.aa rfl (Pl.aa rfl (Pl.aa rfl Pl.aA)))))) ?_
     exact Kv _ _ ⟨aN,bJ,aX,aY,aT,dA,dB,dD,m5,e6,A7,c8,aK,(Pl.Ex.trans aM aH),(Un.below dS aH),bz,(Un.below gG aH),bH,u9,fC,(Pl.Cb.ex aV aH),(by omega),rfl⟩
   · refine Pl.aU (z:=.agg #[.bool false,.slice none 0 0,.int .i64 0]) (by kernel_rfl) rfl rfl rfl rfl (fun Y hY=>Pl.Ex.trans bS hY) ?_
     intro N4 w7 aH iG aF
     have fE:=Pl.Cb.lt aF
     have iU:=Pl.Ex.size aH
     replace aF:Pl.Cb w7 N4 26 [.bool false,.slice none 0 0,.int .i64 0]:=aF
     have bE:=Pl.Ex.trans bS aH
     refine Pl.af ?_
     refine Pl.aW [(6,.bool false),(7,.bool true),(8,.pointer (some ⟨N4,0,none⟩)),(9,.pointer (some ⟨aK,0,none⟩)),(15,.agg #[.bool (decide (aN<0)),.slice aX (limbs (Int.natAbs aN)).length aY,.int .i64 bJ]),(17,.agg #[.bool (decide (aT<0)),.slice dB (limbs (Int.natAbs aT)).length dD,.int .i64 dA]),(18,.agg #[.bool uW,.slice Az uJ.length cz,.int .i64 uX])] (Pl.aa rfl (Pl.aa rfl (Pl.aa rfl (Pl.aa rfl (Pl.aa rfl (Pl.aa rfl (Pl.aa rfl Pl.aA))))))) ?_
     exact Hu _ _ ⟨aN,bJ,aX,aY,aT,dA,dB,dD,N4,aK,(Pl.Ex.trans aM aH),(Un.below dS aH),bz,(Un.below gG aH),bH,aF,(by omega),(Pl.Cb.ex aV aH),(by omega),(by omega),rfl⟩
   · refine Pl.aU (z:=.agg #[.bool false,.slice none 0 0,.int .i64 0]) (by kernel_rfl) rfl rfl rfl rfl (fun Y hY=>Pl.Ex.trans bS hY) ?_
     intro N4 w7 aH iG aF
     have fE:=Pl.Cb.lt aF
     have iU:=Pl.Ex.size aH
     replace aF:Pl.Cb w7 N4 26 [.bool false,.slice none 0 0,.int .i64 0]:=aF
     have bE:=Pl.Ex.trans bS aH
     refine Pl.af ?_
     refine Pl.aW [(6,.bool false),(7,.bool true),(9,.pointer (some ⟨aK,0,none⟩)),(10,.pointer (some ⟨N4,0,none⟩)),(15,.agg #[.bool (decide (aN<0)),.slice aX (limbs (Int.natAbs aN)).length aY,.int .i64 bJ]),(17,.agg #[.bool (decide (aT<0)),.slice dB (limbs (Int.natAbs aT)).length dD,.int .i64 dA]),(18,.agg #[.bool uW,.slice Az uJ.length cz,.int .i64 uX])] (Pl.aa rfl (Pl.aa rfl (Pl.aa rfl (Pl.aa rfl (Pl.aa rfl (Pl.aa rfl (Pl.aa rfl Pl.aA))))))) ?_
     exact QO _ _ ⟨aN,bJ,aX,aY,aT,dA,dB,dD,aK,N4,(Pl.Ex.trans aM aH),(Un.below dS aH),bz,(Un.below gG aH),bH,(Pl.Cb.ex aV aH),(by omega),aF,(by omega),(by omega),rfl⟩
 refine Pl.fP 6 95 (fun l' w'=>∃ (aN:Int) (bJ:Int) (aX:Option Addr) (aY:Nat) (aT:Int) (dA:Int) (dB:Option Addr) (dD:Nat) (aK:Nat),Pl.Ex w5 w'∧(Un w' (.slice aX (limbs (Int.natAbs aN)).length aY) (Int.natAbs aN))∧(Dd aN bJ x 8 (-200) 456)∧(Un w' (.slice dB (limbs (Int.natAbs aT)).length dD) (Int.natAbs aT))∧(Dd aT dA y 8 (-200) 456)∧(Pl.Cb w' aK 26 [.bool false,.slice none 0 0,.int .i64 0])∧(w5.heap.size≤aK)∧l'=[(6,.bool false),(7,.bool true),(8,.pointer (some ⟨aK,0,none⟩)),(15,.agg #[.bool (decide (aN<0)),.slice aX (limbs (Int.natAbs aN)).length aY,.int .i64 bJ]),(17,.agg #[.bool (decide (aT<0)),.slice dB (limbs (Int.natAbs aT)).length dD,.int .i64 dA]),(18,.agg #[.bool uW,.slice Az uJ.length cz,.int .i64 uX])]) ?_ fun OX=>?_
 · rintro _ w6 ⟨aN,bJ,aX,aY,aT,dA,dB,dD,aK,aM,dS,bz,gG,bH,aV,jk,rfl⟩
   have jr:=Pl.Ex.size aM
   have bS:=Pl.Ex.trans hS5 aM
   have mO:=bz.lo
   have mP:=bz.hi
   have pE:=bH.lo
   have pF:=bH.hi
   have gU:=Pl.Cb.lt aV
   refine Pl.cB [5,7,8] 5 (by kernel_rfl) (by kernel_rfl) (by kernel_rfl) (Pl.aj ?_ (Pl.aj ?_ (Pl.aj ?_ Pl.aJ)))
   · refine Pl.ah rfl rfl rfl rfl rfl (fun u X=>Pl.enters Tryz.func38 (by kernel_rfl) rfl u X) ?_
     refine Calls.mono (dF _ _ _ _ _ _ (U.below Y7 (Pl.Ex.trans hE1 (Pl.Ex.trans hE2 (Pl.Ex.trans aO (Pl.Ex.trans aR (Pl.Ex.trans aP aM)))))) 8 (by decide)) ?_
     rintro e w7 ⟨v4,rfl,hv4,aH⟩
     rw [Y8] at hv4
     replace hv4:=Dn.le hv4 (Nat.le_refl 8) (show (-200:Int) ≤ -200 by decide) (show _≤(456:Int) by decide)
     obtain ⟨m5,e6,A7,c8,rfl,u9,fC⟩:=hv4
     have sW:=fC.lo
     have sZ:=fC.hi
     have iU:=Pl.Ex.size aH
     have bE:=Pl.Ex.trans bS aH
     refine ⟨_,rfl,bE,?_⟩
     refine Pl.af ?_
     refine Pl.aW [(6,.bool false),(7,.bool true),(8,.pointer (some ⟨aK,0,none⟩)),(15,.agg #[.bool (decide (aN<0)),.slice aX (limbs (Int.natAbs aN)).length aY,.int .i64 bJ]),(17,.agg #[.bool (decide (aT<0)),.slice dB (limbs (Int.natAbs aT)).length dD,.int .i64 dA]),(19,.agg #[.bool (decide (m5<0)),.slice A7 (limbs (Int.natAbs m5)).length c8,.int .i64 e6])] (Pl.aa rfl (Pl.aa rfl (Pl.aa rfl (Pl.aa rfl (Pl.aa rfl (Pl.aa rfl Pl.aA)))))) ?_
     exact Kw _ _ ⟨aN,bJ,aX,aY,aT,dA,dB,dD,m5,e6,A7,c8,aK,(Pl.Ex.trans aM aH),(Un.below dS aH),bz,(Un.below gG aH),bH,u9,fC,(Pl.Cb.ex aV aH),(by omega),rfl⟩
   · refine Pl.aU (z:=.agg #[.bool false,.slice none 0 0,.int .i64 0]) (by kernel_rfl) rfl rfl rfl rfl (fun Y hY=>Pl.Ex.trans bS hY) ?_
     intro N4 w7 aH iG aF
     have fE:=Pl.Cb.lt aF
     have iU:=Pl.Ex.size aH
     replace aF:Pl.Cb w7 N4 26 [.bool false,.slice none 0 0,.int .i64 0]:=aF
     have bE:=Pl.Ex.trans bS aH
     refine Pl.af ?_
     refine Pl.aW [(6,.bool false),(7,.bool true),(8,.pointer (some ⟨aK,0,none⟩)),(9,.pointer (some ⟨N4,0,none⟩)),(15,.agg #[.bool (decide (aN<0)),.slice aX (limbs (Int.natAbs aN)).length aY,.int .i64 bJ]),(17,.agg #[.bool (decide (aT<0)),.slice dB (limbs (Int.natAbs aT)).length dD,.int .i64 dA]),(18,.agg #[.bool uW,.slice Az uJ.length cz,.int .i64 uX])] (Pl.aa rfl (Pl.aa rfl (Pl.aa rfl (Pl.aa rfl (Pl.aa rfl (Pl.aa rfl (Pl.aa rfl Pl.aA))))))) ?_
     exact Hu _ _ ⟨aN,bJ,aX,aY,aT,dA,dB,dD,aK,N4,(Pl.Ex.trans aM aH),(Un.below dS aH),bz,(Un.below gG aH),bH,(Pl.Cb.ex aV aH),(by omega),aF,(by omega),(by omega),rfl⟩
   · refine Pl.aU (z:=.agg #[.bool false,.slice none 0 0,.int .i64 0]) (by kernel_rfl) rfl rfl rfl rfl (fun Y hY=>Pl.Ex.trans bS hY) ?_
     intro N4 w7 aH iG aF
     have fE:=Pl.Cb.lt aF
     have iU:=Pl.Ex.size aH
     replace aF:Pl.Cb w7 N4 26 [.bool false,.slice none 0 0,.int .i64 0]:=aF
     have bE:=Pl.Ex.trans bS aH
     refine Pl.af ?_
     refine Pl.aW [(6,.bool false),(7,.bool true),(8,.pointer (some ⟨aK,0,none⟩)),(10,.pointer (some ⟨N4,0,none⟩)),(15,.agg #[.bool (decide (aN<0)),.slice aX (limbs (Int.natAbs aN)).length aY,.int .i64 bJ]),(17,.agg #[.bool (decide (aT<0)),.slice dB (limbs (Int.natAbs aT)).length dD,.int .i64 dA]),(18,.agg #[.bool uW,.slice Az uJ.length cz,.int .i64 uX])] (Pl.aa rfl (Pl.aa rfl (Pl.aa rfl (Pl.aa rfl (Pl.aa rfl (Pl.aa rfl (Pl.aa rfl Pl.aA))))))) ?_
     exact Hz _ _ ⟨aN,bJ,aX,aY,aT,dA,dB,dD,aK,N4,(Pl.Ex.trans aM aH),(Un.below dS aH),bz,(Un.below gG aH),bH,(Pl.Cb.ex aV aH),(by omega),aF,(by omega),(by omega),rfl⟩
 refine Pl.fP 7 405 (fun l' w'=>∃ (aK:Nat) (bQ:Nat),Pl.Ex w5 w'∧(Pl.Cb w' aK 26 [.bool false,.slice none 0 0,.int .i64 0])∧(w5.heap.size≤aK)∧(Pl.Cb w' bQ 26 [.bool false,.slice none 0 0,.int .i64 0])∧(w5.heap.size≤bQ)∧(aK≠bQ)∧l'=[(6,.bool false),(7,.bool true),(9,.pointer (some ⟨aK,0,none⟩)),(10,.pointer (some ⟨bQ,0,none⟩)),(14,.agg #[.bool bx0,.slice Ax lu.length cx,.int .i64 oM]),(16,.agg #[.bool qy,.slice Ay oP.length cy,.int .i64 qA]),(18,.agg #[.bool uW,.slice Az uJ.length cz,.int .i64 uX])]) ?_ fun V3=>?_
 · rintro _ w6 ⟨aK,bQ,aM,aV,jk,dV,nY,nZ,rfl⟩
   have jr:=Pl.Ex.size aM
   have bS:=Pl.Ex.trans hS5 aM
   have gU:=Pl.Cb.lt aV
   have lZ:=Pl.Cb.lt dV
   refine Pl.cB [1,6] 6 (by kernel_rfl) (by kernel_rfl) (by kernel_rfl) (Pl.aj ?_ (Pl.aj ?_ Pl.aJ))
   · refine Pl.ah rfl rfl rfl rfl rfl (fun u X=>Pl.enters Tryz.func38 (by kernel_rfl) rfl u X) ?_
     refine Calls.mono (dF _ _ _ _ _ _ (U.below zM (Pl.Ex.trans hE1 (Pl.Ex.trans hE2 (Pl.Ex.trans aO (Pl.Ex.trans aR (Pl.Ex.trans aP aM)))))) 8 (by decide)) ?_
     rintro e w7 ⟨v4,rfl,hv4,aH⟩
     rw [CJ] at hv4
     replace hv4:=Dn.le hv4 (Nat.le_refl 8) (show (-200:Int) ≤ -200 by decide) (show _≤(456:Int) by decide)
     obtain ⟨m5,e6,A7,c8,rfl,u9,fC⟩:=hv4
     have sW:=fC.lo
     have sZ:=fC.hi
     have iU:=Pl.Ex.size aH
     have bE:=Pl.Ex.trans bS aH
     refine ⟨_,rfl,bE,?_⟩
     refine Pl.af ?_
     refine Pl.aW [(6,.bool false),(7,.bool true),(9,.pointer (some ⟨aK,0,none⟩)),(10,.pointer (some ⟨bQ,0,none⟩)),(15,.agg #[.bool (decide (m5<0)),.slice A7 (limbs (Int.natAbs m5)).length c8,.int .i64 e6]),(16,.agg #[.bool qy,.slice Ay oP.length cy,.int .i64 qA]),(18,.agg #[.bool uW,.slice Az uJ.length cz,.int .i64 uX])] (Pl.aa rfl (Pl.aa rfl (Pl.aa rfl (Pl.aa rfl (Pl.aa rfl (Pl.aa rfl (Pl.aa rfl Pl.aA))))))) ?_
     exact QS _ _ ⟨m5,e6,A7,c8,aK,bQ,(Pl.Ex.trans aM aH),u9,fC,(Pl.Cb.ex aV aH),(by omega),(Pl.Cb.ex dV aH),(by omega),(by omega),rfl⟩
   · refine Pl.aU (z:=.agg #[.bool false,.slice none 0 0,.int .i64 0]) (by kernel_rfl) rfl rfl rfl rfl (fun Y hY=>Pl.Ex.trans bS hY) ?_
     intro N4 w7 aH iG aF
     have fE:=Pl.Cb.lt aF
     have iU:=Pl.Ex.size aH
     replace aF:Pl.Cb w7 N4 26 [.bool false,.slice none 0 0,.int .i64 0]:=aF
     have bE:=Pl.Ex.trans bS aH
     refine Pl.af ?_
     refine Pl.aW [(6,.bool false),(7,.bool true),(8,.pointer (some ⟨N4,0,none⟩)),(9,.pointer (some ⟨aK,0,none⟩)),(10,.pointer (some ⟨bQ,0,none⟩)),(14,.agg #[.bool bx0,.slice Ax lu.length cx,.int .i64 oM]),(16,.agg #[.bool qy,.slice Ay oP.length cy,.int .i64 qA]),(18,.agg #[.bool uW,.slice Az uJ.length cz,.int .i64 uX])] (Pl.aa rfl (Pl.aa rfl (Pl.aa rfl (Pl.aa rfl (Pl.aa rfl (Pl.aa rfl (Pl.aa rfl (Pl.aa rfl Pl.aA)))))))) ?_
     exact QR _ _ ⟨N4,aK,bQ,(Pl.Ex.trans aM aH),aF,(by omega),(Pl.Cb.ex aV aH),(by omega),(Pl.Cb.ex dV aH),(by omega),(by omega),(by omega),(by omega),rfl⟩
 refine Pl.fP 7 341 (fun l' w'=>∃ (aK:Nat) (bQ:Nat),Pl.Ex w5 w'∧(Pl.Cb w' aK 26 [.bool false,.slice none 0 0,.int .i64 0])∧(w5.heap.size≤aK)∧(Pl.Cb w' bQ 26 [.bool false,.slice none 0 0,.int .i64 0])∧(w5.heap.size≤bQ)∧(aK≠bQ)∧l'=[(6,.bool false),(7,.bool true),(8,.pointer (some ⟨aK,0,none⟩)),(10,.pointer (some ⟨bQ,0,none⟩)),(14,.agg #[.bool bx0,.slice Ax lu.length cx,.int .i64 oM]),(16,.agg #[.bool qy,.slice Ay oP.length cy,.int .i64 qA]),(18,.agg #[.bool uW,.slice Az uJ.length cz,.int .i64 uX])]) ?_ fun V4=>?_
 · rintro _ w6 ⟨aK,bQ,aM,aV,jk,dV,nY,nZ,rfl⟩
   have jr:=Pl.Ex.size aM
   have bS:=Pl.Ex.trans hS5 aM
   have gU:=Pl.Cb.lt aV
   have lZ:=Pl.Cb.lt dV
   refine Pl.cB [1,7] 6 (by kernel_rfl) (by kernel_rfl) (by kernel_rfl) (Pl.aj ?_ (Pl.aj ?_ Pl.aJ))
   · refine Pl.ah rfl rfl rfl rfl rfl (fun u X=>Pl.enters Tryz.func38 (by kernel_rfl) rfl u X) ?_
     refine Calls.mono (dF _ _ _ _ _ _ (U.below zM (Pl.Ex.trans hE1 (Pl.Ex.trans hE2 (Pl.Ex.trans aO (Pl.Ex.trans aR (Pl.Ex.trans aP aM)))))) 8 (by decide)) ?_
     rintro e w7 ⟨v4,rfl,hv4,aH⟩
     rw [CJ] at hv4
     replace hv4:=Dn.le hv4 (Nat.le_refl 8) (show (-200:Int) ≤ -200 by decide) (show _≤(456:Int) by decide)
     obtain ⟨m5,e6,A7,c8,rfl,u9,fC⟩:=hv4
     have sW:=fC.lo
     have sZ:=fC.hi
     have iU:=Pl.Ex.size aH
     have bE:=Pl.Ex.trans bS aH
     refine ⟨_,rfl,bE,?_⟩
     refine Pl.af ?_
     refine Pl.aW [(6,.bool false),(7,.bool true),(8,.pointer (some ⟨aK,0,none⟩)),(10,.pointer (some ⟨bQ,0,none⟩)),(15,.agg #[.bool (decide (m5<0)),.slice A7 (limbs (Int.natAbs m5)).length c8,.int .i64 e6]),(16,.agg #[.bool qy,.slice Ay oP.length cy,.int .i64 qA]),(18,.agg #[.bool uW,.slice Az uJ.length cz,.int .i64 uX])] (Pl.aa rfl (Pl.aa rfl (Pl.aa rfl (Pl.aa rfl (Pl.aa rfl (Pl.aa rfl (Pl.aa rfl Pl.aA))))))) ?_
     exact H6 _ _ ⟨m5,e6,A7,c8,aK,bQ,(Pl.Ex.trans aM aH),u9,fC,(Pl.Cb.ex aV aH),(by omega),(Pl.Cb.ex dV aH),(by omega),(by omega),rfl⟩
   · refine Pl.aU (z:=.agg #[.bool false,.slice none 0 0,.int .i64 0]) (by kernel_rfl) rfl rfl rfl rfl (fun Y hY=>Pl.Ex.trans bS hY) ?_
     intro N4 w7 aH iG aF
     have fE:=Pl.Cb.lt aF
     have iU:=Pl.Ex.size aH
     replace aF:Pl.Cb w7 N4 26 [.bool false,.slice none 0 0,.int .i64 0]:=aF
     have bE:=Pl.Ex.trans bS aH
     refine Pl.af ?_
     refine Pl.aW [(6,.bool false),(7,.bool true),(8,.pointer (some ⟨aK,0,none⟩)),(9,.pointer (some ⟨N4,0,none⟩)),(10,.pointer (some ⟨bQ,0,none⟩)),(14,.agg #[.bool bx0,.slice Ax lu.length cx,.int .i64 oM]),(16,.agg #[.bool qy,.slice Ay oP.length cy,.int .i64 qA]),(18,.agg #[.bool uW,.slice Az uJ.length cz,.int .i64 uX])] (Pl.aa rfl (Pl.aa rfl (Pl.aa rfl (Pl.aa rfl (Pl.aa rfl (Pl.aa rfl (Pl.aa rfl (Pl.aa rfl Pl.aA)))))))) ?_
     exact QR _ _ ⟨aK,N4,bQ,(Pl.Ex.trans aM aH),(Pl.Cb.ex aV aH),(by omega),aF,(by omega),(Pl.Cb.ex dV aH),(by omega),(by omega),(by omega),(by omega),rfl⟩
 refine Pl.fP 7 279 (fun l' w'=>∃ (aN:Int) (bJ:Int) (aX:Option Addr) (aY:Nat) (aK:Nat),Pl.Ex w5 w'∧(Un w' (.slice aX (limbs (Int.natAbs aN)).length aY) (Int.natAbs aN))∧(Dd aN bJ x 8 (-200) 456)∧(Pl.Cb w' aK 26 [.bool false,.slice none 0 0,.int .i64 0])∧(w5.heap.size≤aK)∧l'=[(6,.bool false),(7,.bool true),(10,.pointer (some ⟨aK,0,none⟩)),(15,.agg #[.bool (decide (aN<0)),.slice aX (limbs (Int.natAbs aN)).length aY,.int .i64 bJ]),(16,.agg #[.bool qy,.slice Ay oP.length cy,.int .i64 qA]),(18,.agg #[.bool uW,.slice Az uJ.length cz,.int .i64 uX])]) ?_ fun V5=>?_
 · rintro _ w6 ⟨aN,bJ,aX,aY,aK,aM,dS,bz,aV,jk,rfl⟩
   have jr:=Pl.Ex.size aM
   have bS:=Pl.Ex.trans hS5 aM
   have mO:=bz.lo
   have mP:=bz.hi
   have gU:=Pl.Cb.lt aV
   refine Pl.cB [3,6,7] 6 (by kernel_rfl) (by kernel_rfl) (by kernel_rfl) (Pl.aj ?_ (Pl.aj ?_ (Pl.aj ?_ Pl.aJ)))
   · refine Pl.ah rfl rfl rfl rfl rfl (fun u X=>Pl.enters Tryz.func38 (by kernel_rfl) rfl u X) ?_
     refine Calls.mono (dF _ _ _ _ _ _ (U.below IB (Pl.Ex.trans hE1 (Pl.Ex.trans hE2 (Pl.Ex.trans aO (Pl.Ex.trans aR (Pl.Ex.trans aP aM)))))) 8 (by decide)) ?_
     rintro e w7 ⟨v4,rfl,hv4,aH⟩
     rw [Ho] at hv4
     replace hv4:=Dn.le hv4 (Nat.le_refl 8) (show (-200:Int) ≤ -200 by decide) (show _≤(456:Int) by decide)
     obtain ⟨m5,e6,A7,c8,rfl,u9,fC⟩:=hv4
     have sW:=fC.lo
     have sZ:=fC.hi
     have iU:=Pl.Ex.size aH
     have bE:=Pl.Ex.trans bS aH
     refine ⟨_,rfl,bE,?_⟩
     refine Pl.af ?_
     refine Pl.aW [(6,.bool false),(7,.bool true),(10,.pointer (some ⟨aK,0,none⟩)),(15,.agg #[.bool (decide (aN<0)),.slice aX (limbs (Int.natAbs aN)).length aY,.int .i64 bJ]),(17,.agg #[.bool (decide (m5<0)),.slice A7 (limbs (Int.natAbs m5)).length c8,.int .i64 e6]),(18,.agg #[.bool uW,.slice Az uJ.length cz,.int .i64 uX])] (Pl.aa rfl (Pl.aa rfl (Pl.aa rfl (Pl.aa rfl (Pl.aa rfl (Pl.aa rfl Pl.aA)))))) ?_
     exact VZ _ _ ⟨aN,bJ,aX,aY,m5,e6,A7,c8,aK,(Pl.Ex.trans aM aH),(Un.below dS aH),bz,u9,fC,(Pl.Cb.ex aV aH),(by omega),rfl⟩
   · refine Pl.aU (z:=.agg #[.bool false,.slice none 0 0,.int .i64 0]) (by kernel_rfl) rfl rfl rfl rfl (fun Y hY=>Pl.Ex.trans bS hY) ?_
     intro N4 w7 aH iG aF
     have fE:=Pl.Cb.lt aF
     have iU:=Pl.Ex.size aH
     replace aF:Pl.Cb w7 N4 26 [.bool false,.slice none 0 0,.int .i64 0]:=aF
     have bE:=Pl.Ex.trans bS aH
     refine Pl.af ?_
     refine Pl.aW [(6,.bool false),(7,.bool true),(8,.pointer (some ⟨N4,0,none⟩)),(10,.pointer (some ⟨aK,0,none⟩)),(15,.agg #[.bool (decide (aN<0)),.slice aX (limbs (Int.natAbs aN)).length aY,.int .i64 bJ]),(16,.agg #[.bool qy,.slice Ay oP.length cy,.int .i64 qA]),(18,.agg #[.bool uW,.slice Az uJ.length cz,.int .i64 uX])] (Pl.aa rfl (Pl.aa rfl (Pl.aa rfl (Pl.aa rfl (Pl.aa rfl (Pl.aa rfl (Pl.aa rfl Pl.aA))))))) ?_
     exact H6 _ _ ⟨aN,bJ,aX,aY,N4,aK,(Pl.Ex.trans aM aH),(Un.below dS aH),bz,aF,(by omega),(Pl.Cb.ex aV aH),(by omega),(by omega),rfl⟩
   · refine Pl.aU (z:=.agg #[.bool false,.slice none 0 0,.int .i64 0]) (by kernel_rfl) rfl rfl rfl rfl (fun Y hY=>Pl.Ex.trans bS hY) ?_
     intro N4 w7 aH iG aF
     have fE:=Pl.Cb.lt aF
     have iU:=Pl.Ex.size aH
     replace aF:Pl.Cb w7 N4 26 [.bool false,.slice none 0 0,.int .i64 0]:=aF
     have bE:=Pl.Ex.trans bS aH
     refine Pl.af ?_
     refine Pl.aW [(6,.bool false),(7,.bool true),(9,.pointer (some ⟨N4,0,none⟩)),(10,.pointer (some ⟨aK,0,none⟩)),(15,.agg #[.bool (decide (aN<0)),.slice aX (limbs (Int.natAbs aN)).length aY,.int .i64 bJ]),(16,.agg #[.bool qy,.slice Ay oP.length cy,.int .i64 qA]),(18,.agg #[.bool uW,.slice Az uJ.length cz,.int .i64 uX])] (Pl.aa rfl (Pl.aa rfl (Pl.aa rfl (Pl.aa rfl (Pl.aa rfl (Pl.aa rfl (Pl.aa rfl Pl.aA))))))) ?_
     exact QS _ _ ⟨aN,bJ,aX,aY,N4,aK,(Pl.Ex.trans aM aH),(Un.below dS aH),bz,aF,(by omega),(Pl.Cb.ex aV aH),(by omega),(by omega),rfl⟩
 refine Pl.fP 7 213 (fun l' w'=>∃ (aK:Nat) (bQ:Nat),Pl.Ex w5 w'∧(Pl.Cb w' aK 26 [.bool false,.slice none 0 0,.int .i64 0])∧(w5.heap.size≤aK)∧(Pl.Cb w' bQ 26 [.bool false,.slice none 0 0,.int .i64 0])∧(w5.heap.size≤bQ)∧(aK≠bQ)∧l'=[(6,.bool false),(7,.bool true),(8,.pointer (some ⟨aK,0,none⟩)),(9,.pointer (some ⟨bQ,0,none⟩)),(14,.agg #[.bool bx0,.slice Ax lu.length cx,.int .i64 oM]),(16,.agg #[.bool qy,.slice Ay oP.length cy,.int .i64 qA]),(18,.agg #[.bool uW,.slice Az uJ.length cz,.int .i64 uX])]) ?_ fun V6=>?_
 · rintro _ w6 ⟨aK,bQ,aM,aV,jk,dV,nY,nZ,rfl⟩
   have jr:=Pl.Ex.size aM
   have bS:=Pl.Ex.trans hS5 aM
   have gU:=Pl.Cb.lt aV
   have lZ:=Pl.Cb.lt dV
   refine Pl.cB [1,8] 6 (by kernel_rfl) (by kernel_rfl) (by kernel_rfl) (Pl.aj ?_ (Pl.aj ?_ Pl.aJ))
   · refine Pl.ah rfl rfl rfl rfl rfl (fun u X=>Pl.enters Tryz.func38 (by kernel_rfl) rfl u X) ?_
     refine Calls.mono (dF _ _ _ _ _ _ (U.below zM (Pl.Ex.trans hE1 (Pl.Ex.trans hE2 (Pl.Ex.trans aO (Pl.Ex.trans aR (Pl.Ex.trans aP aM)))))) 8 (by decide)) ?_
     rintro e w7 ⟨v4,rfl,hv4,aH⟩
     rw [CJ] at hv4
     replace hv4:=Dn.le hv4 (Nat.le_refl 8) (show (-200:Int) ≤ -200 by decide) (show _≤(456:Int) by decide)
     obtain ⟨m5,e6,A7,c8,rfl,u9,fC⟩:=hv4
     have sW:=fC.lo
     have sZ:=fC.hi
     have iU:=Pl.Ex.size aH
     have bE:=Pl.Ex.trans bS aH
     refine ⟨_,rfl,bE,?_⟩
     refine Pl.af ?_
     refine Pl.aW [(6,.bool false),(7,.bool true),(8,.pointer (some ⟨aK,0,none⟩)),(9,.pointer (some ⟨bQ,0,none⟩)),(15,.agg #[.bool (decide (m5<0)),.slice A7 (limbs (Int.natAbs m5)).length c8,.int .i64 e6]),(16,.agg #[.bool qy,.slice Ay oP.length cy,.int .i64 qA]),(18,.agg #[.bool uW,.slice Az uJ.length cz,.int .i64 uX])] (Pl.aa rfl (Pl.aa rfl (Pl.aa rfl (Pl.aa rfl (Pl.aa rfl (Pl.aa rfl (Pl.aa rfl Pl.aA))))))) ?_
     exact QT _ _ ⟨m5,e6,A7,c8,aK,bQ,(Pl.Ex.trans aM aH),u9,fC,(Pl.Cb.ex aV aH),(by omega),(Pl.Cb.ex dV aH),(by omega),(by omega),rfl⟩
   · refine Pl.aU (z:=.agg #[.bool false,.slice none 0 0,.int .i64 0]) (by kernel_rfl) rfl rfl rfl rfl (fun Y hY=>Pl.Ex.trans bS hY) ?_
     intro N4 w7 aH iG aF
     have fE:=Pl.Cb.lt aF
     have iU:=Pl.Ex.size aH
     replace aF:Pl.Cb w7 N4 26 [.bool false,.slice none 0 0,.int .i64 0]:=aF
     have bE:=Pl.Ex.trans bS aH
     refine Pl.af ?_
     refine Pl.aW [(6,.bool false),(7,.bool true),(8,.pointer (some ⟨aK,0,none⟩)),(9,.pointer (some ⟨bQ,0,none⟩)),(10,.pointer (some ⟨N4,0,none⟩)),(14,.agg #[.bool bx0,.slice Ax lu.length cx,.int .i64 oM]),(16,.agg #[.bool qy,.slice Ay oP.length cy,.int .i64 qA]),(18,.agg #[.bool uW,.slice Az uJ.length cz,.int .i64 uX])] (Pl.aa rfl (Pl.aa rfl (Pl.aa rfl (Pl.aa rfl (Pl.aa rfl (Pl.aa rfl (Pl.aa rfl (Pl.aa rfl Pl.aA)))))))) ?_
     exact QR _ _ ⟨aK,bQ,N4,(Pl.Ex.trans aM aH),(Pl.Cb.ex aV aH),(by omega),(Pl.Cb.ex dV aH),(by omega),aF,(by omega),(by omega),(by omega),(by omega),rfl⟩
 refine Pl.fP 7 151 (fun l' w'=>∃ (aN:Int) (bJ:Int) (aX:Option Addr) (aY:Nat) (aK:Nat),Pl.Ex w5 w'∧(Un w' (.slice aX (limbs (Int.natAbs aN)).length aY) (Int.natAbs aN))∧(Dd aN bJ x 8 (-200) 456)∧(Pl.Cb w' aK 26 [.bool false,.slice none 0 0,.int .i64 0])∧(w5.heap.size≤aK)∧l'=[(6,.bool false),(7,.bool true),(9,.pointer (some ⟨aK,0,none⟩)),(15,.agg #[.bool (decide (aN<0)),.slice aX (limbs (Int.natAbs aN)).length aY,.int .i64 bJ]),(16,.agg #[.bool qy,.slice Ay oP.length cy,.int .i64 qA]),(18,.agg #[.bool uW,.slice Az uJ.length cz,.int .i64 uX])]) ?_ fun V7=>?_
 · rintro _ w6 ⟨aN,bJ,aX,aY,aK,aM,dS,bz,aV,jk,rfl⟩
   have jr:=Pl.Ex.size aM
   have bS:=Pl.Ex.trans hS5 aM
   have mO:=bz.lo
   have mP:=bz.hi
   have gU:=Pl.Cb.lt aV
   refine Pl.cB [3,6,8] 6 (by kernel_rfl) (by kernel_rfl) (by kernel_rfl) (Pl.aj ?_ (Pl.aj ?_ (Pl.aj ?_ Pl.aJ)))
   · refine Pl.ah rfl rfl rfl rfl rfl (fun u X=>Pl.enters Tryz.func38 (by kernel_rfl) rfl u X) ?_
     refine Calls.mono (dF _ _ _ _ _ _ (U.below IB (Pl.Ex.trans hE1 (Pl.Ex.trans hE2 (Pl.Ex.trans aO (Pl.Ex.trans aR (Pl.Ex.trans aP aM)))))) 8 (by decide)) ?_
     rintro e w7 ⟨v4,rfl,hv4,aH⟩
     rw [Ho] at hv4
     replace hv4:=Dn.le hv4 (Nat.le_refl 8) (show (-200:Int) ≤ -200 by decide) (show _≤(456:Int) by decide)
     obtain ⟨m5,e6,A7,c8,rfl,u9,fC⟩:=hv4
     have sW:=fC.lo
     have sZ:=fC.hi
     have iU:=Pl.Ex.size aH
     have bE:=Pl.Ex.trans bS aH
     refine ⟨_,rfl,bE,?_⟩
     refine Pl.af ?_
     refine Pl.aW [(6,.bool false),(7,.bool true),(9,.pointer (some ⟨aK,0,none⟩)),(15,.agg #[.bool (decide (aN<0)),.slice aX (limbs (Int.natAbs aN)).length aY,.int .i64 bJ]),(17,.agg #[.bool (decide (m5<0)),.slice A7 (limbs (Int.natAbs m5)).length c8,.int .i64 e6]),(18,.agg #[.bool uW,.slice Az uJ.length cz,.int .i64 uX])] (Pl.aa rfl (Pl.aa rfl (Pl.aa rfl (Pl.aa rfl (Pl.aa rfl (Pl.aa rfl Pl.aA)))))) ?_
     exact Ky _ _ ⟨aN,bJ,aX,aY,m5,e6,A7,c8,aK,(Pl.Ex.trans aM aH),(Un.below dS aH),bz,u9,fC,(Pl.Cb.ex aV aH),(by omega),rfl⟩
   · refine Pl.aU (z:=.agg #[.bool false,.slice none 0 0,.int .i64 0]) (by kernel_rfl) rfl rfl rfl rfl (fun Y hY=>Pl.Ex.trans bS hY) ?_
     intro N4 w7 aH iG aF
     have fE:=Pl.Cb.lt aF
     have iU:=Pl.Ex.size aH
     replace aF:Pl.Cb w7 N4 26 [.bool false,.slice none 0 0,.int .i64 0]:=aF
     have bE:=Pl.Ex.trans bS aH
     refine Pl.af ?_
     refine Pl.aW [(6,.bool false),(7,.bool true),(8,.pointer (some ⟨N4,0,none⟩)),(9,.pointer (some ⟨aK,0,none⟩)),(15,.agg #[.bool (decide (aN<0)),.slice aX (limbs (Int.natAbs aN)).length aY,.int .i64 bJ]),(16,.agg #[.bool qy,.slice Ay oP.length cy,.int .i64 qA]),(18,.agg #[.bool uW,.slice Az uJ.length cz,.int .i64 uX])] (Pl.aa rfl (Pl.aa rfl (Pl.aa rfl (Pl.aa rfl (Pl.aa rfl (Pl.aa rfl (Pl.aa rfl Pl.aA))))))) ?_
     exact QT _ _ ⟨aN,bJ,aX,aY,N4,aK,(Pl.Ex.trans aM aH),(Un.below dS aH),bz,aF,(by omega),(Pl.Cb.ex aV aH),(by omega),(by omega),rfl⟩
   · refine Pl.aU (z:=.agg #[.bool false,.slice none 0 0,.int .i64 0]) (by kernel_rfl) rfl rfl rfl rfl (fun Y hY=>Pl.Ex.trans bS hY) ?_
     intro N4 w7 aH iG aF
     have fE:=Pl.Cb.lt aF
     have iU:=Pl.Ex.size aH
     replace aF:Pl.Cb w7 N4 26 [.bool false,.slice none 0 0,.int .i64 0]:=aF
     have bE:=Pl.Ex.trans bS aH
     refine Pl.af ?_
     refine Pl.aW [(6,.bool false),(7,.bool true),(9,.pointer (some ⟨aK,0,none⟩)),(10,.pointer (some ⟨N4,0,none⟩)),(15,.agg #[.bool (decide (aN<0)),.slice aX (limbs (Int.natAbs aN)).length aY,.int .i64 bJ]),(16,.agg #[.bool qy,.slice Ay oP.length cy,.int .i64 qA]),(18,.agg #[.bool uW,.slice Az uJ.length cz,.int .i64 uX])] (Pl.aa rfl (Pl.aa rfl (Pl.aa rfl (Pl.aa rfl (Pl.aa rfl (Pl.aa rfl (Pl.aa rfl Pl.aA))))))) ?_
     exact QS _ _ ⟨aN,bJ,aX,aY,aK,N4,(Pl.Ex.trans aM aH),(Un.below dS aH),bz,(Pl.Cb.ex aV aH),(by omega),aF,(by omega),(by omega),rfl⟩
 refine Pl.fP 7 87 (fun l' w'=>∃ (aN:Int) (bJ:Int) (aX:Option Addr) (aY:Nat) (aK:Nat),Pl.Ex w5 w'∧(Un w' (.slice aX (limbs (Int.natAbs aN)).length aY) (Int.natAbs aN))∧(Dd aN bJ x 8 (-200) 456)∧(Pl.Cb w' aK 26 [.bool false,.slice none 0 0,.int .i64 0])∧(w5.heap.size≤aK)∧l'=[(6,.bool false),(7,.bool true),(8,.pointer (some ⟨aK,0,none⟩)),(15,.agg #[.bool (decide (aN<0)),.slice aX (limbs (Int.natAbs aN)).length aY,.int .i64 bJ]),(16,.agg #[.bool qy,.slice Ay oP.length cy,.int .i64 qA]),(18,.agg #[.bool uW,.slice Az uJ.length cz,.int .i64 uX])]) ?_ fun ab1=>?_
 · rintro _ w6 ⟨aN,bJ,aX,aY,aK,aM,dS,bz,aV,jk,rfl⟩
   have jr:=Pl.Ex.size aM
   have bS:=Pl.Ex.trans hS5 aM
   have mO:=bz.lo
   have mP:=bz.hi
   have gU:=Pl.Cb.lt aV
   refine Pl.cB [3,7,8] 6 (by kernel_rfl) (by kernel_rfl) (by kernel_rfl) (Pl.aj ?_ (Pl.aj ?_ (Pl.aj ?_ Pl.aJ)))
   · refine Pl.ah rfl rfl rfl rfl rfl (fun u X=>Pl.enters Tryz.func38 (by kernel_rfl) rfl u X) ?_
     refine Calls.mono (dF _ _ _ _ _ _ (U.below IB (Pl.Ex.trans hE1 (Pl.Ex.trans hE2 (Pl.Ex.trans aO (Pl.Ex.trans aR (Pl.Ex.trans aP aM)))))) 8 (by decide)) ?_
     rintro e w7 ⟨v4,rfl,hv4,aH⟩
     rw [Ho] at hv4
     replace hv4:=Dn.le hv4 (Nat.le_refl 8) (show (-200:Int) ≤ -200 by decide) (show _≤(456:Int) by decide)
     obtain ⟨m5,e6,A7,c8,rfl,u9,fC⟩:=hv4
     have sW:=fC.lo
     have sZ:=fC.hi
     have iU:=Pl.Ex.size aH
     have bE:=Pl.Ex.trans bS aH
     refine ⟨_,rfl,bE,?_⟩
     refine Pl.af ?_
     refine Pl.aW [(6,.bool false),(7,.bool true),(8,.pointer (some ⟨aK,0,none⟩)),(15,.agg #[.bool (decide (aN<0)),.slice aX (limbs (Int.natAbs aN)).length aY,.int .i64 bJ]),(17,.agg #[.bool (decide (m5<0)),.slice A7 (limbs (Int.natAbs m5)).length c8,.int .i64 e6]),(18,.agg #[.bool uW,.slice Az uJ.length cz,.int .i64 uX])] (Pl.aa rfl (Pl.aa rfl (Pl.aa rfl (Pl.aa rfl (Pl.aa rfl (Pl.aa rfl Pl.aA)))))) ?_
     exact OX _ _ ⟨aN,bJ,aX,aY,m5,e6,A7,c8,aK,(Pl.Ex.trans aM aH),(Un.below dS aH),bz,u9,fC,(Pl.Cb.ex aV aH),(by omega),rfl⟩
   · refine Pl.aU (z:=.agg #[.bool false,.slice none 0 0,.int .i64 0]) (by kernel_rfl) rfl rfl rfl rfl (fun Y hY=>Pl.Ex.trans bS hY) ?_
     intro N4 w7 aH iG aF
     have fE:=Pl.Cb.lt aF
     have iU:=Pl.Ex.size aH
     replace aF:Pl.Cb w7 N4 26 [.bool false,.slice none 0 0,.int .i64 0]:=aF
     have bE:=Pl.Ex.trans bS aH
     refine Pl.af ?_
     refine Pl.aW [(6,.bool false),(7,.bool true),(8,.pointer (some ⟨aK,0,none⟩)),(9,.pointer (some ⟨N4,0,none⟩)),(15,.agg #[.bool (decide (aN<0)),.slice aX (limbs (Int.natAbs aN)).length aY,.int .i64 bJ]),(16,.agg #[.bool qy,.slice Ay oP.length cy,.int .i64 qA]),(18,.agg #[.bool uW,.slice Az uJ.length cz,.int .i64 uX])] (Pl.aa rfl (Pl.aa rfl (Pl.aa rfl (Pl.aa rfl (Pl.aa rfl (Pl.aa rfl (Pl.aa rfl Pl.aA))))))) ?_
     exact QT _ _ ⟨aN,bJ,aX,aY,aK,N4,(Pl.Ex.trans aM aH),(Un.below dS aH),bz,(Pl.Cb.ex aV aH),(by omega),aF,(by omega),(by omega),rfl⟩
   · refine Pl.aU (z:=.agg #[.bool false,.slice none 0 0,.int .i64 0]) (by kernel_rfl) rfl rfl rfl rfl (fun Y hY=>Pl.Ex.trans bS hY) ?_
     intro N4 w7 aH iG aF
     have fE:=Pl.Cb.lt aF
     have iU:=Pl.Ex.size aH
     replace aF:Pl.Cb w7 N4 26 [.bool false,.slice none 0 0,.int .i64 0]:=aF
     have bE:=Pl.Ex.trans bS aH
     refine Pl.af ?_
     refine Pl.aW [(6,.bool false),(7,.bool true),(8,.pointer (some ⟨aK,0,none⟩)),(10,.pointer (some ⟨N4,0,none⟩)),(15,.agg #[.bool (decide (aN<0)),.slice aX (limbs (Int.natAbs aN)).length aY,.int .i64 bJ]),(16,.agg #[.bool qy,.slice Ay oP.length cy,.int .i64 qA]),(18,.agg #[.bool uW,.slice Az uJ.length cz,.int .i64 uX])] (Pl.aa rfl (Pl.aa rfl (Pl.aa rfl (Pl.aa rfl (Pl.aa rfl (Pl.aa rfl (Pl.aa rfl Pl.aA))))))) ?_
     exact H6 _ _ ⟨aN,bJ,aX,aY,aK,N4,(Pl.Ex.trans aM aH),(Un.below dS aH),bz,(Pl.Cb.ex aV aH),(by omega),aF,(by omega),(by omega),rfl⟩
 refine Pl.aZ [(true,0,0),(true,2,1),(true,4,5)] 21 9 Pl.az (by kernel_rfl) (by kernel_rfl) (by kernel_rfl) ?_
 refine Pl.bT (part:=[.bool bx0,.slice Ax lu.length cx,.int .i64 oM]) (fun X hX=>Pl.Cb.ex (Pl.Cb.ex aC (Pl.Ex.trans hE2 (Pl.Ex.trans aO aR))) hX) rfl Tryz.underlying26 rfl (by kernel_rfl) hS5 rfl rfl rfl rfl rfl ?_
 refine Pl.bT (part:=[.bool qy,.slice Ay oP.length cy,.int .i64 qA]) (fun X hX=>Pl.Cb.ex (Pl.Cb.ex aD (Pl.Ex.trans aO aR)) hX) rfl Tryz.underlying26 rfl (by kernel_rfl) hS5 rfl rfl rfl rfl rfl ?_
 refine Pl.bT (part:=[.bool uW,.slice Az uJ.length cz,.int .i64 uX]) (fun X hX=>Pl.Cb.ex (Pl.Cb.ex aL aR) hX) rfl Tryz.underlying26 rfl (by kernel_rfl) hS5 rfl rfl rfl rfl rfl ?_
 refine Pl.af ?_
 refine Pl.cB [1,6,7,8] 8 (by kernel_rfl) (by kernel_rfl) (by kernel_rfl) (Pl.aj ?_ (Pl.aj ?_ (Pl.aj ?_ (Pl.aj ?_ Pl.aJ))))
 · refine Pl.ah rfl rfl rfl rfl rfl (fun u X=>Pl.enters Tryz.func38 (by kernel_rfl) rfl u X) ?_
   refine Calls.mono (dF _ _ _ _ _ _ (U.below zM (Pl.Ex.trans hE1 (Pl.Ex.trans hE2 (Pl.Ex.trans aO (Pl.Ex.trans aR aP))))) 8 (by decide)) ?_
   rintro e w6 ⟨v4,rfl,hv4,aM⟩
   rw [CJ] at hv4
   replace hv4:=Dn.le hv4 (Nat.le_refl 8) (show (-200:Int) ≤ -200 by decide) (show _≤(456:Int) by decide)
   obtain ⟨m5,e6,A7,c8,rfl,u9,fC⟩:=hv4
   have sW:=fC.lo
   have sZ:=fC.hi
   have jr:=Pl.Ex.size aM
   have bS:=Pl.Ex.trans hS5 aM
   refine ⟨_,rfl,bS,?_⟩
   refine Pl.af ?_
   refine Pl.cB [3,6,7,8] 7 (by kernel_rfl) (by kernel_rfl) (by kernel_rfl) (Pl.aj ?_ (Pl.aj ?_ (Pl.aj ?_ (Pl.aj ?_ Pl.aJ))))
   · refine Pl.ah rfl rfl rfl rfl rfl (fun u X=>Pl.enters Tryz.func38 (by kernel_rfl) rfl u X) ?_
     refine Calls.mono (dF _ _ _ _ _ _ (U.below IB (Pl.Ex.trans hE1 (Pl.Ex.trans hE2 (Pl.Ex.trans aO (Pl.Ex.trans aR (Pl.Ex.trans aP aM)))))) 8 (by decide)) ?_
     rintro e w7 ⟨v11,rfl,kL,aH⟩
     rw [Ho] at kL
     replace kL:=Dn.le kL (Nat.le_refl 8) (show (-200:Int) ≤ -200 by decide) (show _≤(456:Int) by decide)
     obtain ⟨m12,e13,qK,c15,rfl,u16,kG⟩:=kL
     have LF:=kG.lo
     have LG:=kG.hi
     have iU:=Pl.Ex.size aH
     have bE:=Pl.Ex.trans bS aH
     refine ⟨_,rfl,bE,?_⟩
     refine Pl.af ?_
     refine Pl.cB [5,6,7,8] 6 (by kernel_rfl) (by kernel_rfl) (by kernel_rfl) (Pl.aj ?_ (Pl.aj ?_ (Pl.aj ?_ (Pl.aj ?_ Pl.aJ))))
     · refine Pl.ah rfl rfl rfl rfl rfl (fun u X=>Pl.enters Tryz.func38 (by kernel_rfl) rfl u X) ?_
       refine Calls.mono (dF _ _ _ _ _ _ (U.below Y7 (Pl.Ex.trans hE1 (Pl.Ex.trans hE2 (Pl.Ex.trans aO (Pl.Ex.trans aR (Pl.Ex.trans aP (Pl.Ex.trans aM aH))))))) 8 (by decide)) ?_
       rintro e w8 ⟨v18,rfl,Kt,bu⟩
       rw [Y8] at Kt
       replace Kt:=Dn.le Kt (Nat.le_refl 8) (show (-200:Int) ≤ -200 by decide) (show _≤(456:Int) by decide)
       obtain ⟨m19,e20,Dg,Dh,rfl,u23,OU⟩:=Kt
       have af6:=OU.lo
       have af7:=OU.hi
       have mh:=Pl.Ex.size bu
       have bD:=Pl.Ex.trans bE bu
       refine ⟨_,rfl,bD,?_⟩
       refine Pl.af ?_
       refine Pl.cB [6,7,8] 5 (by kernel_rfl) (by kernel_rfl) (by kernel_rfl) (Pl.aj ?_ (Pl.aj ?_ (Pl.aj ?_ Pl.aJ)))
       · refine Pl.aU (z:=.agg #[.bool false,.slice none 0 0,.int .i64 0]) (by kernel_rfl) rfl rfl rfl rfl (fun Y hY=>Pl.Ex.trans bD hY) ?_
         intro V8 w9 dh V9 tV
         have ab2:=Pl.Cb.lt tV
         have pG:=Pl.Ex.size dh
         replace tV:Pl.Cb w9 V8 26 [.bool false,.slice none 0 0,.int .i64 0]:=tV
         have bK:=Pl.Ex.trans bD dh
         refine Pl.af ?_
         refine Pl.aW [(6,.bool false),(7,.bool true),(8,.pointer (some ⟨V8,0,none⟩)),(15,.agg #[.bool (decide (m5<0)),.slice A7 (limbs (Int.natAbs m5)).length c8,.int .i64 e6]),(17,.agg #[.bool (decide (m12<0)),.slice qK (limbs (Int.natAbs m12)).length c15,.int .i64 e13]),(19,.agg #[.bool (decide (m19<0)),.slice Dg (limbs (Int.natAbs m19)).length Dh,.int .i64 e20])] (Pl.aa rfl (Pl.aa rfl (Pl.aa rfl (Pl.aa rfl (Pl.aa rfl (Pl.aa rfl Pl.aA)))))) ?_
         exact Kw _ _ ⟨m5,e6,A7,c8,m12,e13,qK,c15,m19,e20,Dg,Dh,V8,(Pl.Ex.trans aM (Pl.Ex.trans aH (Pl.Ex.trans bu dh))),(Un.below u9 (Pl.Ex.trans aH (Pl.Ex.trans bu dh))),fC,(Un.below u16 (Pl.Ex.trans bu dh)),kG,(Un.below u23 dh),OU,tV,(by omega),rfl⟩
       · refine Pl.aU (z:=.agg #[.bool false,.slice none 0 0,.int .i64 0]) (by kernel_rfl) rfl rfl rfl rfl (fun Y hY=>Pl.Ex.trans bD hY) ?_
         intro V8 w9 dh V9 tV
         have ab2:=Pl.Cb.lt tV
         have pG:=Pl.Ex.size dh
         replace tV:Pl.Cb w9 V8 26 [.bool false,.slice none 0 0,.int .i64 0]:=tV
         have bK:=Pl.Ex.trans bD dh
         refine Pl.af ?_
         refine Pl.aW [(6,.bool false),(7,.bool true),(9,.pointer (some ⟨V8,0,none⟩)),(15,.agg #[.bool (decide (m5<0)),.slice A7 (limbs (Int.natAbs m5)).length c8,.int .i64 e6]),(17,.agg #[.bool (decide (m12<0)),.slice qK (limbs (Int.natAbs m12)).length c15,.int .i64 e13]),(19,.agg #[.bool (decide (m19<0)),.slice Dg (limbs (Int.natAbs m19)).length Dh,.int .i64 e20])] (Pl.aa rfl (Pl.aa rfl (Pl.aa rfl (Pl.aa rfl (Pl.aa rfl (Pl.aa rfl Pl.aA)))))) ?_
         exact Kv _ _ ⟨m5,e6,A7,c8,m12,e13,qK,c15,m19,e20,Dg,Dh,V8,(Pl.Ex.trans aM (Pl.Ex.trans aH (Pl.Ex.trans bu dh))),(Un.below u9 (Pl.Ex.trans aH (Pl.Ex.trans bu dh))),fC,(Un.below u16 (Pl.Ex.trans bu dh)),kG,(Un.below u23 dh),OU,tV,(by omega),rfl⟩
       · refine Pl.aU (z:=.agg #[.bool false,.slice none 0 0,.int .i64 0]) (by kernel_rfl) rfl rfl rfl rfl (fun Y hY=>Pl.Ex.trans bD hY) ?_
         intro V8 w9 dh V9 tV
         have ab2:=Pl.Cb.lt tV
         have pG:=Pl.Ex.size dh
         replace tV:Pl.Cb w9 V8 26 [.bool false,.slice none 0 0,.int .i64 0]:=tV
         have bK:=Pl.Ex.trans bD dh
         refine Pl.af ?_
         refine Pl.aW [(6,.bool false),(7,.bool true),(10,.pointer (some ⟨V8,0,none⟩)),(15,.agg #[.bool (decide (m5<0)),.slice A7 (limbs (Int.natAbs m5)).length c8,.int .i64 e6]),(17,.agg #[.bool (decide (m12<0)),.slice qK (limbs (Int.natAbs m12)).length c15,.int .i64 e13]),(19,.agg #[.bool (decide (m19<0)),.slice Dg (limbs (Int.natAbs m19)).length Dh,.int .i64 e20])] (Pl.aa rfl (Pl.aa rfl (Pl.aa rfl (Pl.aa rfl (Pl.aa rfl (Pl.aa rfl Pl.aA)))))) ?_
         exact VY _ _ ⟨m5,e6,A7,c8,m12,e13,qK,c15,m19,e20,Dg,Dh,V8,(Pl.Ex.trans aM (Pl.Ex.trans aH (Pl.Ex.trans bu dh))),(Un.below u9 (Pl.Ex.trans aH (Pl.Ex.trans bu dh))),fC,(Un.below u16 (Pl.Ex.trans bu dh)),kG,(Un.below u23 dh),OU,tV,(by omega),rfl⟩
     · refine Pl.aU (z:=.agg #[.bool false,.slice none 0 0,.int .i64 0]) (by kernel_rfl) rfl rfl rfl rfl (fun Y hY=>Pl.Ex.trans bE hY) ?_
       intro Hq w8 bu Dk iY
       have IJ:=Pl.Cb.lt iY
       have mh:=Pl.Ex.size bu
       replace iY:Pl.Cb w8 Hq 26 [.bool false,.slice none 0 0,.int .i64 0]:=iY
       have bD:=Pl.Ex.trans bE bu
       refine Pl.af ?_
       refine Pl.aW [(6,.bool false),(7,.bool true),(8,.pointer (some ⟨Hq,0,none⟩)),(15,.agg #[.bool (decide (m5<0)),.slice A7 (limbs (Int.natAbs m5)).length c8,.int .i64 e6]),(17,.agg #[.bool (decide (m12<0)),.slice qK (limbs (Int.natAbs m12)).length c15,.int .i64 e13]),(18,.agg #[.bool uW,.slice Az uJ.length cz,.int .i64 uX])] (Pl.aa rfl (Pl.aa rfl (Pl.aa rfl (Pl.aa rfl (Pl.aa rfl (Pl.aa rfl Pl.aA)))))) ?_
       exact OX _ _ ⟨m5,e6,A7,c8,m12,e13,qK,c15,Hq,(Pl.Ex.trans aM (Pl.Ex.trans aH bu)),(Un.below u9 (Pl.Ex.trans aH bu)),fC,(Un.below u16 bu),kG,iY,(by omega),rfl⟩
     · refine Pl.aU (z:=.agg #[.bool false,.slice none 0 0,.int .i64 0]) (by kernel_rfl) rfl rfl rfl rfl (fun Y hY=>Pl.Ex.trans bE hY) ?_
       intro Hq w8 bu Dk iY
       have IJ:=Pl.Cb.lt iY
       have mh:=Pl.Ex.size bu
       replace iY:Pl.Cb w8 Hq 26 [.bool false,.slice none 0 0,.int .i64 0]:=iY
       have bD:=Pl.Ex.trans bE bu
       refine Pl.af ?_
       refine Pl.aW [(6,.bool false),(7,.bool true),(9,.pointer (some ⟨Hq,0,none⟩)),(15,.agg #[.bool (decide (m5<0)),.slice A7 (limbs (Int.natAbs m5)).length c8,.int .i64 e6]),(17,.agg #[.bool (decide (m12<0)),.slice qK (limbs (Int.natAbs m12)).length c15,.int .i64 e13]),(18,.agg #[.bool uW,.slice Az uJ.length cz,.int .i64 uX])] (Pl.aa rfl (Pl.aa rfl (Pl.aa rfl (Pl.aa rfl (Pl.aa rfl (Pl.aa rfl Pl.aA)))))) ?_
       exact Ky _ _ ⟨m5,e6,A7,c8,m12,e13,qK,c15,Hq,(Pl.Ex.trans aM (Pl.Ex.trans aH bu)),(Un.below u9 (Pl.Ex.trans aH bu)),fC,(Un.below u16 bu),kG,iY,(by omega),rfl⟩
     · refine Pl.aU (z:=.agg #[.bool false,.slice none 0 0,.int .i64 0]) (by kernel_rfl) rfl rfl rfl rfl (fun Y hY=>Pl.Ex.trans bE hY) ?_
       intro Hq w8 bu Dk iY
       have IJ:=Pl.Cb.lt iY
       have mh:=Pl.Ex.size bu
       replace iY:Pl.Cb w8 Hq 26 [.bool false,.slice none 0 0,.int .i64 0]:=iY
       have bD:=Pl.Ex.trans bE bu
       refine Pl.af ?_
       refine Pl.aW [(6,.bool false),(7,.bool true),(10,.pointer (some ⟨Hq,0,none⟩)),(15,.agg #[.bool (decide (m5<0)),.slice A7 (limbs (Int.natAbs m5)).length c8,.int .i64 e6]),(17,.agg #[.bool (decide (m12<0)),.slice qK (limbs (Int.natAbs m12)).length c15,.int .i64 e13]),(18,.agg #[.bool uW,.slice Az uJ.length cz,.int .i64 uX])] (Pl.aa rfl (Pl.aa rfl (Pl.aa rfl (Pl.aa rfl (Pl.aa rfl (Pl.aa rfl Pl.aA)))))) ?_
       exact VZ _ _ ⟨m5,e6,A7,c8,m12,e13,qK,c15,Hq,(Pl.Ex.trans aM (Pl.Ex.trans aH bu)),(Un.below u9 (Pl.Ex.trans aH bu)),fC,(Un.below u16 bu),kG,iY,(by omega),rfl⟩
   · refine Pl.aU (z:=.agg #[.bool false,.slice none 0 0,.int .i64 0]) (by kernel_rfl) rfl rfl rfl rfl (fun Y hY=>Pl.Ex.trans bS hY) ?_
     intro mo w7 aH AL gL
     have gp:=Pl.Cb.lt gL
     have iU:=Pl.Ex.size aH
     replace gL:Pl.Cb w7 mo 26 [.bool false,.slice none 0 0,.int .i64 0]:=gL
     have bE:=Pl.Ex.trans bS aH
     refine Pl.af ?_
     refine Pl.aW [(6,.bool false),(7,.bool true),(8,.pointer (some ⟨mo,0,none⟩)),(15,.agg #[.bool (decide (m5<0)),.slice A7 (limbs (Int.natAbs m5)).length c8,.int .i64 e6]),(16,.agg #[.bool qy,.slice Ay oP.length cy,.int .i64 qA]),(18,.agg #[.bool uW,.slice Az uJ.length cz,.int .i64 uX])] (Pl.aa rfl (Pl.aa rfl (Pl.aa rfl (Pl.aa rfl (Pl.aa rfl (Pl.aa rfl Pl.aA)))))) ?_
     exact ab1 _ _ ⟨m5,e6,A7,c8,mo,(Pl.Ex.trans aM aH),(Un.below u9 aH),fC,gL,(by omega),rfl⟩
   · refine Pl.aU (z:=.agg #[.bool false,.slice none 0 0,.int .i64 0]) (by kernel_rfl) rfl rfl rfl rfl (fun Y hY=>Pl.Ex.trans bS hY) ?_
     intro mo w7 aH AL gL
     have gp:=Pl.Cb.lt gL
     have iU:=Pl.Ex.size aH
     replace gL:Pl.Cb w7 mo 26 [.bool false,.slice none 0 0,.int .i64 0]:=gL
     have bE:=Pl.Ex.trans bS aH
     refine Pl.af ?_
     refine Pl.aW [(6,.bool false),(7,.bool true),(9,.pointer (some ⟨mo,0,none⟩)),(15,.agg #[.bool (decide (m5<0)),.slice A7 (limbs (Int.natAbs m5)).length c8,.int .i64 e6]),(16,.agg #[.bool qy,.slice Ay oP.length cy,.int .i64 qA]),(18,.agg #[.bool uW,.slice Az uJ.length cz,.int .i64 uX])] (Pl.aa rfl (Pl.aa rfl (Pl.aa rfl (Pl.aa rfl (Pl.aa rfl (Pl.aa rfl Pl.aA)))))) ?_
     exact V7 _ _ ⟨m5,e6,A7,c8,mo,(Pl.Ex.trans aM aH),(Un.below u9 aH),fC,gL,(by omega),rfl⟩
   · refine Pl.aU (z:=.agg #[.bool false,.slice none 0 0,.int .i64 0]) (by kernel_rfl) rfl rfl rfl rfl (fun Y hY=>Pl.Ex.trans bS hY) ?_
     intro mo w7 aH AL gL
     have gp:=Pl.Cb.lt gL
     have iU:=Pl.Ex.size aH
     replace gL:Pl.Cb w7 mo 26 [.bool false,.slice none 0 0,.int .i64 0]:=gL
     have bE:=Pl.Ex.trans bS aH
     refine Pl.af ?_
     refine Pl.aW [(6,.bool false),(7,.bool true),(10,.pointer (some ⟨mo,0,none⟩)),(15,.agg #[.bool (decide (m5<0)),.slice A7 (limbs (Int.natAbs m5)).length c8,.int .i64 e6]),(16,.agg #[.bool qy,.slice Ay oP.length cy,.int .i64 qA]),(18,.agg #[.bool uW,.slice Az uJ.length cz,.int .i64 uX])] (Pl.aa rfl (Pl.aa rfl (Pl.aa rfl (Pl.aa rfl (Pl.aa rfl (Pl.aa rfl Pl.aA)))))) ?_
     exact V5 _ _ ⟨m5,e6,A7,c8,mo,(Pl.Ex.trans aM aH),(Un.below u9 aH),fC,gL,(by omega),rfl⟩
 · refine Pl.aU (z:=.agg #[.bool false,.slice none 0 0,.int .i64 0]) (by kernel_rfl) rfl rfl rfl rfl (fun Y hY=>Pl.Ex.trans hS5 hY) ?_
   intro N4 w6 aM iG aF
   have fE:=Pl.Cb.lt aF
   have jr:=Pl.Ex.size aM
   replace aF:Pl.Cb w6 N4 26 [.bool false,.slice none 0 0,.int .i64 0]:=aF
   have bS:=Pl.Ex.trans hS5 aM
   refine Pl.af ?_
   refine Pl.cB [1,7,8] 7 (by kernel_rfl) (by kernel_rfl) (by kernel_rfl) (Pl.aj ?_ (Pl.aj ?_ (Pl.aj ?_ Pl.aJ)))
   · refine Pl.ah rfl rfl rfl rfl rfl (fun u X=>Pl.enters Tryz.func38 (by kernel_rfl) rfl u X) ?_
     refine Calls.mono (dF _ _ _ _ _ _ (U.below zM (Pl.Ex.trans hE1 (Pl.Ex.trans hE2 (Pl.Ex.trans aO (Pl.Ex.trans aR (Pl.Ex.trans aP aM)))))) 8 (by decide)) ?_
     rintro e w7 ⟨v5,rfl,hv5,aH⟩
     rw [CJ] at hv5
     replace hv5:=Dn.le hv5 (Nat.le_refl 8) (show (-200:Int) ≤ -200 by decide) (show _≤(456:Int) by decide)
     obtain ⟨m6,e7,A8,c9,rfl,rW,Hw⟩:=hv5
     have VW:=Hw.lo
     have VX:=Hw.hi
     have iU:=Pl.Ex.size aH
     have bE:=Pl.Ex.trans bS aH
     refine ⟨_,rfl,bE,?_⟩
     refine Pl.af ?_
     refine Pl.aW [(6,.bool false),(7,.bool true),(8,.pointer (some ⟨N4,0,none⟩)),(15,.agg #[.bool (decide (m6<0)),.slice A8 (limbs (Int.natAbs m6)).length c9,.int .i64 e7]),(16,.agg #[.bool qy,.slice Ay oP.length cy,.int .i64 qA]),(18,.agg #[.bool uW,.slice Az uJ.length cz,.int .i64 uX])] (Pl.aa rfl (Pl.aa rfl (Pl.aa rfl (Pl.aa rfl (Pl.aa rfl (Pl.aa rfl Pl.aA)))))) ?_
     exact ab1 _ _ ⟨m6,e7,A8,c9,N4,(Pl.Ex.trans aM aH),rW,Hw,(Pl.Cb.ex aF aH),(by omega),rfl⟩
   · refine Pl.aU (z:=.agg #[.bool false,.slice none 0 0,.int .i64 0]) (by kernel_rfl) rfl rfl rfl rfl (fun Y hY=>Pl.Ex.trans bS hY) ?_
     intro N5 w7 aH qN cK
     have iy:=Pl.Cb.lt cK
     have iU:=Pl.Ex.size aH
     replace cK:Pl.Cb w7 N5 26 [.bool false,.slice none 0 0,.int .i64 0]:=cK
     have bE:=Pl.Ex.trans bS aH
     refine Pl.af ?_
     refine Pl.aW [(6,.bool false),(7,.bool true),(8,.pointer (some ⟨N4,0,none⟩)),(9,.pointer (some ⟨N5,0,none⟩)),(14,.agg #[.bool bx0,.slice Ax lu.length cx,.int .i64 oM]),(16,.agg #[.bool qy,.slice Ay oP.length cy,.int .i64 qA]),(18,.agg #[.bool uW,.slice Az uJ.length cz,.int .i64 uX])] (Pl.aa rfl (Pl.aa rfl (Pl.aa rfl (Pl.aa rfl (Pl.aa rfl (Pl.aa rfl (Pl.aa rfl Pl.aA))))))) ?_
     exact V6 _ _ ⟨N4,N5,(Pl.Ex.trans aM aH),(Pl.Cb.ex aF aH),(by omega),cK,(by omega),(by omega),rfl⟩
   · refine Pl.aU (z:=.agg #[.bool false,.slice none 0 0,.int .i64 0]) (by kernel_rfl) rfl rfl rfl rfl (fun Y hY=>Pl.Ex.trans bS hY) ?_
     intro N5 w7 aH qN cK
     have iy:=Pl.Cb.lt cK
     have iU:=Pl.Ex.size aH
     replace cK:Pl.Cb w7 N5 26 [.bool false,.slice none 0 0,.int .i64 0]:=cK
     have bE:=Pl.Ex.trans bS aH
     refine Pl.af ?_
     refine Pl.aW [(6,.bool false),(7,.bool true),(8,.pointer (some ⟨N4,0,none⟩)),(10,.pointer (some ⟨N5,0,none⟩)),(14,.agg #[.bool bx0,.slice Ax lu.length cx,.int .i64 oM]),(16,.agg #[.bool qy,.slice Ay oP.length cy,.int .i64 qA]),(18,.agg #[.bool uW,.slice Az uJ.length cz,.int .i64 uX])] (Pl.aa rfl (Pl.aa rfl (Pl.aa rfl (Pl.aa rfl (Pl.aa rfl (Pl.aa rfl (Pl.aa rfl Pl.aA))))))) ?_
     exact V4 _ _ ⟨N4,N5,(Pl.Ex.trans aM aH),(Pl.Cb.ex aF aH),(by omega),cK,(by omega),(by omega),rfl⟩
 · refine Pl.aU (z:=.agg #[.bool false,.slice none 0 0,.int .i64 0]) (by kernel_rfl) rfl rfl rfl rfl (fun Y hY=>Pl.Ex.trans hS5 hY) ?_
   intro N4 w6 aM iG aF
   have fE:=Pl.Cb.lt aF
   have jr:=Pl.Ex.size aM
   replace aF:Pl.Cb w6 N4 26 [.bool false,.slice none 0 0,.int .i64 0]:=aF
   have bS:=Pl.Ex.trans hS5 aM
   refine Pl.af ?_
   refine Pl.cB [1,6,8] 7 (by kernel_rfl) (by kernel_rfl) (by kernel_rfl) (Pl.aj ?_ (Pl.aj ?_ (Pl.aj ?_ Pl.aJ)))
   · refine Pl.ah rfl rfl rfl rfl rfl (fun u X=>Pl.enters Tryz.func38 (by kernel_rfl) rfl u X) ?_
     refine Calls.mono (dF _ _ _ _ _ _ (U.below zM (Pl.Ex.trans hE1 (Pl.Ex.trans hE2 (Pl.Ex.trans aO (Pl.Ex.trans aR (Pl.Ex.trans aP aM)))))) 8 (by decide)) ?_
     rintro e w7 ⟨v5,rfl,hv5,aH⟩
     rw [CJ] at hv5
     replace hv5:=Dn.le hv5 (Nat.le_refl 8) (show (-200:Int) ≤ -200 by decide) (show _≤(456:Int) by decide)
     obtain ⟨m6,e7,A8,c9,rfl,rW,Hw⟩:=hv5
     have VW:=Hw.lo
     have VX:=Hw.hi
     have iU:=Pl.Ex.size aH
     have bE:=Pl.Ex.trans bS aH
     refine ⟨_,rfl,bE,?_⟩
     refine Pl.af ?_
     refine Pl.aW [(6,.bool false),(7,.bool true),(9,.pointer (some ⟨N4,0,none⟩)),(15,.agg #[.bool (decide (m6<0)),.slice A8 (limbs (Int.natAbs m6)).length c9,.int .i64 e7]),(16,.agg #[.bool qy,.slice Ay oP.length cy,.int .i64 qA]),(18,.agg #[.bool uW,.slice Az uJ.length cz,.int .i64 uX])] (Pl.aa rfl (Pl.aa rfl (Pl.aa rfl (Pl.aa rfl (Pl.aa rfl (Pl.aa rfl Pl.aA)))))) ?_
     exact V7 _ _ ⟨m6,e7,A8,c9,N4,(Pl.Ex.trans aM aH),rW,Hw,(Pl.Cb.ex aF aH),(by omega),rfl⟩
   · refine Pl.aU (z:=.agg #[.bool false,.slice none 0 0,.int .i64 0]) (by kernel_rfl) rfl rfl rfl rfl (fun Y hY=>Pl.Ex.trans bS hY) ?_
     intro N5 w7 aH qN cK
     have iy:=Pl.Cb.lt cK
     have iU:=Pl.Ex.size aH
     replace cK:Pl.Cb w7 N5 26 [.bool false,.slice none 0 0,.int .i64 0]:=cK
     have bE:=Pl.Ex.trans bS aH
     refine Pl.af ?_
     refine Pl.aW [(6,.bool false),(7,.bool true),(8,.pointer (some ⟨N5,0,none⟩)),(9,.pointer (some ⟨N4,0,none⟩)),(14,.agg #[.bool bx0,.slice Ax lu.length cx,.int .i64 oM]),(16,.agg #[.bool qy,.slice Ay oP.length cy,.int .i64 qA]),(18,.agg #[.bool uW,.slice Az uJ.length cz,.int .i64 uX])] (Pl.aa rfl (Pl.aa rfl (Pl.aa rfl (Pl.aa rfl (Pl.aa rfl (Pl.aa rfl (Pl.aa rfl Pl.aA))))))) ?_
     exact V6 _ _ ⟨N5,N4,(Pl.Ex.trans aM aH),cK,(by omega),(Pl.Cb.ex aF aH),(by omega),(by omega),rfl⟩
   · refine Pl.aU (z:=.agg #[.bool false,.slice none 0 0,.int .i64 0]) (by kernel_rfl) rfl rfl rfl rfl (fun Y hY=>Pl.Ex.trans bS hY) ?_
     intro N5 w7 aH qN cK
     have iy:=Pl.Cb.lt cK
     have iU:=Pl.Ex.size aH
     replace cK:Pl.Cb w7 N5 26 [.bool false,.slice none 0 0,.int .i64 0]:=cK
     have bE:=Pl.Ex.trans bS aH
     refine Pl.af ?_
     refine Pl.aW [(6,.bool false),(7,.bool true),(9,.pointer (some ⟨N4,0,none⟩)),(10,.pointer (some ⟨N5,0,none⟩)),(14,.agg #[.bool bx0,.slice Ax lu.length cx,.int .i64 oM]),(16,.agg #[.bool qy,.slice Ay oP.length cy,.int .i64 qA]),(18,.agg #[.bool uW,.slice Az uJ.length cz,.int .i64 uX])] (Pl.aa rfl (Pl.aa rfl (Pl.aa rfl (Pl.aa rfl (Pl.aa rfl (Pl.aa rfl (Pl.aa rfl Pl.aA))))))) ?_
     exact V3 _ _ ⟨N4,N5,(Pl.Ex.trans aM aH),(Pl.Cb.ex aF aH),(by omega),cK,(by omega),(by omega),rfl⟩
 · refine Pl.aU (z:=.agg #[.bool false,.slice none 0 0,.int .i64 0]) (by kernel_rfl) rfl rfl rfl rfl (fun Y hY=>Pl.Ex.trans hS5 hY) ?_
   intro N4 w6 aM iG aF
   have fE:=Pl.Cb.lt aF
   have jr:=Pl.Ex.size aM
   replace aF:Pl.Cb w6 N4 26 [.bool false,.slice none 0 0,.int .i64 0]:=aF
   have bS:=Pl.Ex.trans hS5 aM
   refine Pl.af ?_
   refine Pl.cB [1,6,7] 7 (by kernel_rfl) (by kernel_rfl) (by kernel_rfl) (Pl.aj ?_ (Pl.aj ?_ (Pl.aj ?_ Pl.aJ)))
   · refine Pl.ah rfl rfl rfl rfl rfl (fun u X=>Pl.enters Tryz.func38 (by kernel_rfl) rfl u X) ?_
     refine Calls.mono (dF _ _ _ _ _ _ (U.below zM (Pl.Ex.trans hE1 (Pl.Ex.trans hE2 (Pl.Ex.trans aO (Pl.Ex.trans aR (Pl.Ex.trans aP aM)))))) 8 (by decide)) ?_
     rintro e w7 ⟨v5,rfl,hv5,aH⟩
     rw [CJ] at hv5
     replace hv5:=Dn.le hv5 (Nat.le_refl 8) (show (-200:Int) ≤ -200 by decide) (show _≤(456:Int) by decide)
     obtain ⟨m6,e7,A8,c9,rfl,rW,Hw⟩:=hv5
     have VW:=Hw.lo
     have VX:=Hw.hi
     have iU:=Pl.Ex.size aH
     have bE:=Pl.Ex.trans bS aH
     refine ⟨_,rfl,bE,?_⟩
     refine Pl.af ?_
     refine Pl.aW [(6,.bool false),(7,.bool true),(10,.pointer (some ⟨N4,0,none⟩)),(15,.agg #[.bool (decide (m6<0)),.slice A8 (limbs (Int.natAbs m6)).length c9,.int .i64 e7]),(16,.agg #[.bool qy,.slice Ay oP.length cy,.int .i64 qA]),(18,.agg #[.bool uW,.slice Az uJ.length cz,.int .i64 uX])] (Pl.aa rfl (Pl.aa rfl (Pl.aa rfl (Pl.aa rfl (Pl.aa rfl (Pl.aa rfl Pl.aA)))))) ?_
     exact V5 _ _ ⟨m6,e7,A8,c9,N4,(Pl.Ex.trans aM aH),rW,Hw,(Pl.Cb.ex aF aH),(by omega),rfl⟩
   · refine Pl.aU (z:=.agg #[.bool false,.slice none 0 0,.int .i64 0]) (by kernel_rfl) rfl rfl rfl rfl (fun Y hY=>Pl.Ex.trans bS hY) ?_
     intro N5 w7 aH qN cK
     have iy:=Pl.Cb.lt cK
     have iU:=Pl.Ex.size aH
     replace cK:Pl.Cb w7 N5 26 [.bool false,.slice none 0 0,.int .i64 0]:=cK
     have bE:=Pl.Ex.trans bS aH
     refine Pl.af ?_
     refine Pl.aW [(6,.bool false),(7,.bool true),(8,.pointer (some ⟨N5,0,none⟩)),(10,.pointer (some ⟨N4,0,none⟩)),(14,.agg #[.bool bx0,.slice Ax lu.length cx,.int .i64 oM]),(16,.agg #[.bool qy,.slice Ay oP.length cy,.int .i64 qA]),(18,.agg #[.bool uW,.slice Az uJ.length cz,.int .i64 uX])] (Pl.aa rfl (Pl.aa rfl (Pl.aa rfl (Pl.aa rfl (Pl.aa rfl (Pl.aa rfl (Pl.aa rfl Pl.aA))))))) ?_
     exact V4 _ _ ⟨N5,N4,(Pl.Ex.trans aM aH),cK,(by omega),(Pl.Cb.ex aF aH),(by omega),(by omega),rfl⟩
   · refine Pl.aU (z:=.agg #[.bool false,.slice none 0 0,.int .i64 0]) (by kernel_rfl) rfl rfl rfl rfl (fun Y hY=>Pl.Ex.trans bS hY) ?_
     intro N5 w7 aH qN cK
     have iy:=Pl.Cb.lt cK
     have iU:=Pl.Ex.size aH
     replace cK:Pl.Cb w7 N5 26 [.bool false,.slice none 0 0,.int .i64 0]:=cK
     have bE:=Pl.Ex.trans bS aH
     refine Pl.af ?_
     refine Pl.aW [(6,.bool false),(7,.bool true),(9,.pointer (some ⟨N5,0,none⟩)),(10,.pointer (some ⟨N4,0,none⟩)),(14,.agg #[.bool bx0,.slice Ax lu.length cx,.int .i64 oM]),(16,.agg #[.bool qy,.slice Ay oP.length cy,.int .i64 qA]),(18,.agg #[.bool uW,.slice Az uJ.length cz,.int .i64 uX])] (Pl.aa rfl (Pl.aa rfl (Pl.aa rfl (Pl.aa rfl (Pl.aa rfl (Pl.aa rfl (Pl.aa rfl Pl.aA))))))) ?_
     exact V3 _ _ ⟨N5,N4,(Pl.Ex.trans aM aH),cK,(by omega),(Pl.Cb.ex aF aH),(by omega),(by omega),rfl⟩
end Go.Proofs.YtdpmbgomcjnohaaGreatDoor
namespace Go.Proofs.YtdpmbgomcjnohaaGreatDoor
open Go.ChangeShapes Go.WideShapes Go.ChangeAt Go.RowKit
set_option linter.all false
set_option maxRecDepth 100000
set_option maxHeartbeats 8000000
theorem vo:Tryz.prog.cellsOf 24 = 2:=by kernel_rfl
theorem uo:Tryz.prog.cellsOf 22 = 1:=by kernel_rfl
theorem vw {H:Type} {enc:TypeId × Value→H} {W:World} {m:Nat} {c0 c1:Value} {y:DataW H × List MemPlace} (h:DataW.trod enc Tryz.prog W 0 (fun _=>true) true m 24 [c0,c1]=some y) :
  ∃ (s:Bool) (A:Option Addr) (c:Nat) (xs:List Nat),c0 = .bool s∧c1 = .slice A xs.length c∧U W (.slice A xs.length c) xs:=by
 obtain ⟨ys,n,_,rfl,hl,hlen,hf⟩:=DataW.trod_struct Tryz.underlying24 h
 match ys,hlen,hf with
 | [y0,y1],_,hf =>
  have h0:=hf 0 _ rfl
  have h1:=hf 1 _ rfl
  have cb:Tryz.prog.cellsOf 4 = 1:=by kernel_rfl
  simp [uo,cb] at h0 h1
  obtain ⟨s,e0,_⟩:=DataW.trod_bool Tryz.underlying4 h0
  obtain ⟨xs,u⟩:=kJ h1
  obtain ⟨A,c,rfl,hu⟩:=id u
  simp at e0
  exact ⟨s,A,c,xs,e0,rfl,u⟩
end Go.Proofs.YtdpmbgomcjnohaaGreatDoor
namespace Go.Proofs.YtdpmbgomcjnohaaGreatDoor
open Go.ChangeShapes Go.WideShapes Go.ChangeAt Go.RowKit
set_option linter.all false
set_option maxRecDepth 100000
set_option maxHeartbeats 8000000
abbrev jM:List (String × DataW Unit):=[("math/bits.deBruijn32tab",Rows.laid_math_bits_deBruijn32tab),("ziggurat/ntt.fields",Rows.laid_ziggurat_ntt_fields)]
theorem qE (os:Os) (args:Array Value):laidMetH Tryz.prog jM ((World.laidAll Tryz.prog os jM).forCall (fun _ _=>0) ⟨#[],args,[]⟩).memory:=by
 rw [MakeChecks.laidMetH_plain _ _ _ (by kernel_rfl)]
 exact laidMet_laidAll _ (by kernel_rfl) (by kernel_rfl)
theorem Qu:Tryz.prog.globalNamed "math/bits.deBruijn32tab" = some 0:=by kernel_rfl
theorem Qv:(Tryz.prog.globals[0]?).map (·.type)=some 121 := by kernel_rfl
theorem vS:Tryz.prog.cellsOf 5 = 1:=by kernel_rfl
theorem sJ:Tryz.prog.cellsOf 121 = 32:=by kernel_rfl
theorem nk {W:World} (h:laidMetH Tryz.prog jM W):Gt W:=by
 rw [MakeChecks.laidMetH_plain _ _ _ (by kernel_rfl)] at h
 obtain ⟨ps,⟨g0,t0,cs0,f0,p0,q0,hg0,ht0,hv0,hd0,_,_⟩,_⟩:=h
 obtain rfl:=Option.some.inj (Qu.symm.trans hg0)
 obtain rfl:=Option.some.inj (Qv.symm.trans ht0)
 obtain ⟨xs,m1,rfl,hx1,hlen,Y4,hel⟩:=DataW.trod_array Tryz.underlying121 hd0
 rw [sJ] at hlen
 simp only [vS] at hel
 obtain ⟨l⟩:=cs0
 rw [Prod.mk.injEq] at hx1
 have hx2:DataW.agg (AQ.map fun n=>DataW.lit (Lit.int .u8 ((n:Nat):Int)))=DataW.agg (xs.map (·.1)):=hx1.1
 rw [DataW.agg.injEq] at hx2
 have hc:=fun k=>World.var?_cell hg0 hv0 k
 have hall:∀ i,i<32→W.cell? ⟨0,i,none⟩=some (.int .u8 ((lb AQ i:Nat):Int)):=by
  intro i hi
  have e:=hel i hi
  have hxi:i<xs.length:=by omega
  have J8:i<l.length:=by have:l.length=32:=hlen;omega
  have hdi:i<AQ.length:=hi
  rw [List.getElem?_eq_getElem hxi,Nat.mul_one,List.drop_eq_getElem_cons J8] at e
  simp only [List.take_succ_cons,List.take_zero] at e
  obtain ⟨a,e0,hy,_⟩:=DataW.trod_int Tryz.underlying5 e
  have h1:=congrArg (fun q=>q[i]?) hx2
  simp only [List.getElem?_map,List.getElem?_eq_getElem hxi,List.getElem?_eq_getElem hdi,Option.map_some,Option.some.injEq,hy,DataW.lit.injEq,Lit.int.injEq,true_and] at h1
  have h2:lb AQ i=AQ[i]:=by unfold lb;rw [List.getElem?_eq_getElem hdi];rfl
  rw [h2,h1]
  have h3:=hc i
  simp only [List.cons.injEq,and_true] at e0
  rw [← e0]
  exact h3.trans (by simp [J8])
 exact ⟨World.block_lt_of_cell? W ⟨0,0,none⟩ (hall 0 (by decide)),hall⟩
end Go.Proofs.YtdpmbgomcjnohaaGreatDoor
namespace Go.Proofs.YtdpmbgomcjnohaaGreatDoor
open Go.ChangeShapes Go.WideShapes Go.ChangeAt Go.RowKit
set_option linter.all false
set_option maxRecDepth 100000
set_option maxHeartbeats 8000000
theorem oW {H:Type} {enc:TypeId × Value→H} {W:World} {base:Nat} {v:Value} {d:DataW H} {ps:List MemPlace} (hval:Value.okWide Tryz.prog W .any base 26 v) (h:DataW.Trod enc Tryz.prog W 0 (fun _=>true) true 26 v d ps) :
  ∃ (s:Bool) (A:Option Addr) (c:Nat) (xs:List Nat) (e:Int),v = .agg #[.bool s,.slice A xs.length c,.int .i64 e]∧U W (.slice A xs.length c) xs:=by
 obtain ⟨cs,rfl,hsz⟩:=okWide_struct Tryz.underlying26 hval
 rw [show Tryz.prog.cellsOf 26 = 3 by kernel_rfl] at hsz
 obtain ⟨l⟩:=cs
 match l,hsz with
 | [c0,c1,c2],_ =>
  obtain ⟨fuel,hf⟩:=h
  obtain ⟨ys,n,_,hq9,hl,hlen,hf⟩:=DataW.trod_struct Tryz.underlying26 hf
  match ys,hlen,hf with
  | [y0,y1],_,hf =>
   have h0:=hf 0 _ rfl
   have h1:=hf 1 _ rfl
   simp [vo,show Tryz.prog.cellsOf 3 = 1 by kernel_rfl] at h0 h1
   obtain ⟨s,A,c,xs,rfl,rfl,u⟩:=vw h0
   obtain ⟨e,e1,_⟩:=DataW.trod_int Tryz.underlying3 h1
   obtain rfl:=(List.cons.inj (show [c2]=[Value.int .i64 e] from e1)).1
   exact ⟨s,A,c,xs,e,rfl,u⟩
end Go.Proofs.YtdpmbgomcjnohaaGreatDoor
namespace Go.Proofs.YtdpmbgomcjnohaaGreatDoor
open Go.ChangeShapes Go.WideShapes Go.ChangeAt Go.RowKit
set_option linter.all false
set_option maxRecDepth 100000
set_option maxHeartbeats 8000000
theorem Jj (os:Os) (started:os.Started) (H:Type) (enc:TypeId × Value→H) :
  ReturnsInHanded {} Tryz.checked os 5 .any (fun w args=>(Rows.dyadRingSpec.pre enc Tryz.prog Tryz.f5 [] false w args∧laidMetH Tryz.prog jM w)∧sizedMet enc Tryz.prog Tryz.f5 (OpenSpec.ofChange Rows.dyadRingSpec) false w args)
   (Rows.dyadRingSpec.post enc Tryz.prog Tryz.f5 false true false false):=by
 refine returnsInHanded_of_change_and (C:=Tryz.checked) (X:=fun w _=>laidMetH Tryz.prog jM w) (fun _ _ _ hh h=>h.of_heap hh) own started (by kernel_rfl) Tryz.func5
  (ChangeSpec.witness_shaped (enc:=enc) (C:=Tryz.checked) (os:=os) (X:=fun w _=>laidMetH Tryz.prog jM w) false (World.laidAll Tryz.prog os jM) #[.agg #[.bool false,.slice none 0 0,.int .i64 0],.agg #[.bool false,.slice none 0 0,.int .i64 0],.agg #[.bool false,.slice none 0 0,.int .i64 0]] 8 (World.laidAll_os _ _ _) (World.shaped_of_ZipB (by kernel_rfl) (by kernel_rfl)) (by kernel_rfl) (by kernel_rfl) (by kernel_rfl) (qE os _)) ?_
 intro W base args ds gs before hval0 hW _ _ hL _
 have hval:∀ (j:Nat) t v,Tryz.f5.params[j]?=some t→args[j]?=some v→Value.okWide Tryz.prog W .any base t v:=hval0
 have hW':=hW
 obtain ⟨p,q,D9,hV,rfl,hfz,hnd⟩:=hW
 have hA:DataW.TrodAll enc Tryz.prog W 0 (fun _=>true) true Tryz.f5.params.toList args.toList ds p:=D9
 rw [Tryz.params5] at hA hval
 clear D9 hval0
 obtain ⟨v0,vs0,d0,ds0,p0,q0,EE,rfl,rfl,h0,r0⟩:=trodAll_cons hA
 obtain ⟨v1,vs1,d1,ds1,p1,q1,vT,rfl,rfl,h1,r1⟩:=trodAll_cons r0
 obtain ⟨v2,vs2,d2,ds2,p2,q2,xD,rfl,rfl,h2,r2⟩:=trodAll_cons r1
 obtain ⟨hn1,rfl,rfl⟩:=trodAll_nil r2
 subst hn1
 subst xD
 subst vT
 obtain rfl:args=#[v0,v1,v2]:=by cases args;simp_all
 obtain ⟨rfl,rfl⟩:=trodVars_none hV
 obtain ⟨s0,A0,c0,x0,e0,hv0,u0⟩:=oW (hval 0 26 v0 rfl rfl) h0
 subst hv0
 obtain ⟨s1,A1,c1,x1,e1,hv1,u1⟩:=oW (hval 1 26 v1 rfl rfl) h1
 subst hv1
 obtain ⟨s2,A2,c2,x2,e2,hv2,u2⟩:=oW (hval 2 26 v2 rfl rfl) h2
 subst hv2
 refine (LH W (nk hL) s0 A0 c0 x0 e0 u0 s1 A1 c1 x1 e1 u1 s2 A2 c2 x2 e2 u2).mono fun e W' ⟨he,hB⟩=>?_
 subst he
 exact ⟨_,rfl,qC hW' rfl (by rw [Tryz.params5];decide +kernel) rfl rfl rfl rfl hB⟩
theorem LJ:Rows.DyadRingSaid :=
 OpenClaim.holds_of_wide 5 Tryz.f5 rfl rfl rfl rfl rfl rfl rfl ⟨rfl,rfl,rfl,rfl,rfl⟩ rfl rfl rfl rfl rfl (by kernel_rfl) Tryz.func5 (by kernel_rfl)
  (of_decide_eq_true (by kernel_rfl)) (by unfold Func.isWrapper;first | (rw [if_pos (by decide +kernel)];kernel_rfl) | (rw [if_neg (by decide +kernel)];exact ⟨rfl,rfl⟩))
  (fun os started H enc _=>Jj os started H enc)
theorem dyadRing_holds:Rows.DyadRingCardSaid :=
 Claim7.holds_tied_plain_at .later [] [.data,.wider] true Rows.dyadRingCard.stood.harness false
  LJ (fun _ h=>by cases h) (by kernel_rfl) (fun _ h=>by cases h) dyadRing_row_tie rfl ⟨rfl,rfl⟩ (by kernel_rfl) rfl
  (fun f fn hf hfn=>by
   obtain rfl:f = 5 := Option.some.inj ((show Tryz.prog.funcNamed "ziggurat/zigguratlaw10.DyadRing" = some 5 by kernel_rfl).symm.trans hf) |>.symm
   obtain rfl:fn=Tryz.f5 := (Option.some.inj (Tryz.func5.symm.trans hfn)).symm
   exact ⟨by kernel_rfl,fun j t ht=>by
    rw [Tryz.params5] at ht
    have hm:t∈[26,26,26]:=by simpa using Array.mem_of_getElem? ht
    have hall:([26,26,26].all fun u=>!Tryz.prog.wantsStandIn u)=true:=by kernel_rfl
    exact (show Tryz.prog.wantsStandIn t=false by simpa using List.all_eq_true.1 hall t hm)⟩)
  (by kernel_rfl)
end Go.Proofs.YtdpmbgomcjnohaaGreatDoor
