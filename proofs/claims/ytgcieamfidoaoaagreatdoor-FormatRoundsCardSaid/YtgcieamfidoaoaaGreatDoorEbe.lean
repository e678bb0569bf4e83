/- What is known of the types of stage 10. -/
import Derived.Test.YtgcieamfidoaoaaGreatDoorEbc
import Derived.Test.YtgcieamfidoaoaaGreatDoorEbb
import Derived.Test.YtgcieamfidoaoaaGreatDoorEab
import Derived.Test.YtgcieamfidoaoaaGreatDoorEba
import Derived.Test.YtgcieamfidoaoaaGreatDoorEav
import Derived.Test.YtgcieamfidoaoaaGreatDoorEaz
import Derived.Test.YtgcieamfidoaoaaGreatDoorEaj
import Derived.Deep.Cut
import Derived.Deep.RegionHeld3
set_option linter.all false
set_option maxHeartbeats 8000000
namespace Go.Proofs.YtgcieamfidoaoaaGreatDoor.Rf
open Go Go.RowKit Go.Proofs.YtgcieamfidoaoaaGreatDoor.Pl
set_option maxRecDepth 100000
def S9:List SV→Bool
 | []=>true
 | .v x::l=>bG x&&S9 l
 | _=>false
theorem gp:∀ {l:List SV},S9 l=true→∀ α γ,∀ c∈bZ α γ l,bG c=true
 | [],_,_,_,c,hc=>by cases hc
 | .v x::l,h,α,γ,c,hc=>by
  have h1:(bG x&&S9 l)=true:=h
  rw [Bool.and_eq_true] at h1
  rcases List.mem_cons.1 (show c∈x::bZ α γ l from hc) with rfl | hc
  · exact h1.1
  · exact gp h1.2 α γ c hc
def tyZ:TypeId→Option (List SV)
 | 4 => some [vF]
 | 3 => some [vI 0]
 | 24 => some [vN]
 | 46 => some [vI 0]
 | 5 => some [.v (.int .u8 0)]
 | 2 => some [vI 0]
 | 88 => some [.v (.nilFunc)]
 | 89 => some [.v (.nilFunc)]
 | 62 => some [.v (.nilFunc)]
 | 34 => some [vF,vN]
 | 36 => some [vF,vN,vN]
 | 23 => some [vI 0,vI 0,vI 0,vI 0]
 | 26 => some [vI 0,vF,vN,vI 0]
 | 96 => some [vF,vI 0,vF,vF]
 | 91 => some [.v (.nilFunc),.v (.nilFunc)]
 | 92 => some [.v (.nilFunc),.v (.nilFunc),.v (.nilFunc),.v (.nilFunc),.v (.nilFunc),.v (.nilFunc),.v (.nilFunc),.v (.nilFunc),.v (.nilFunc),.v (.nilFunc)]
 | 27 => some [vI 0,vF,vN,vI 0,vI 0,vF,vN,vI 0]
 | 59 => some [vF,vN,vN,vF,vN,vN]
 | 64 => some [.v (.int .u8 0),.v (.int .u8 0)]
 | _=>none
def tyN:TypeId→Option (Nat × Bool)
 | 4 => some (1,false)
 | 3 => some (1,false)
 | 24 => some (1,false)
 | 46 => some (1,false)
 | 5 => some (1,false)
 | 2 => some (1,false)
 | 88 => some (1,false)
 | 89 => some (1,false)
 | 62 => some (1,false)
 | 34 => some (2,true)
 | 36 => some (3,true)
 | 23 => some (4,true)
 | 26 => some (4,true)
 | 96 => some (4,true)
 | 91 => some (2,true)
 | 92 => some (10,true)
 | 27 => some (8,true)
 | 59 => some (6,true)
 | 64 => some (2,true)
 | _=>none
def tyO:TypeId→Nat→Option Nat
 | 34,0=>some 0
 | 34,1=>some 1
 | 36,0=>some 0
 | 36,1=>some 2
 | 23,0=>some 0
 | 23,1=>some 1
 | 23,2=>some 2
 | 23,3=>some 3
 | 26,0=>some 0
 | 26,1=>some 1
 | 26,2=>some 2
 | 26,3=>some 3
 | 96,0=>some 0
 | 96,1=>some 1
 | 96,2=>some 2
 | 96,3=>some 3
 | 91,0=>some 0
 | 91,1=>some 1
 | _,_=>none
def tI:TI:=⟨tyZ,tyN,tyO⟩
theorem aa:E8 Tryz.prog tI where
 zero t cs h:=by
  have h1:tyZ t=some cs:=h
  unfold tyZ at h1
  split at h1
  · cases h1;exact ⟨.bool false,by kernel_rfl,fun _ _=>rfl,gp rfl,fun _=>rfl⟩
  · cases h1;exact ⟨.int .i64 0,by kernel_rfl,fun _ _=>rfl,gp rfl,fun _=>rfl⟩
  · cases h1;exact ⟨.slice none 0 0,by kernel_rfl,fun _ _=>rfl,gp rfl,fun _=>rfl⟩
  · cases h1;exact ⟨.int .i64 0,by kernel_rfl,fun _ _=>rfl,gp rfl,fun _=>rfl⟩
  · cases h1;exact ⟨.int .u8 0,by kernel_rfl,fun _ _=>rfl,gp rfl,fun _=>rfl⟩
  · cases h1;exact ⟨.int .i64 0,by kernel_rfl,fun _ _=>rfl,gp rfl,fun _=>rfl⟩
  · cases h1;exact ⟨.nilFunc,by kernel_rfl,fun _ _=>rfl,gp rfl,fun _=>rfl⟩
  · cases h1;exact ⟨.nilFunc,by kernel_rfl,fun _ _=>rfl,gp rfl,fun _=>rfl⟩
  · cases h1;exact ⟨.nilFunc,by kernel_rfl,fun _ _=>rfl,gp rfl,fun _=>rfl⟩
  · cases h1;exact ⟨.agg #[.bool false,.slice none 0 0],by kernel_rfl,fun _ _=>rfl,gp rfl,fun _=>rfl⟩
  · cases h1;exact ⟨.agg #[.bool false,.slice none 0 0,.slice none 0 0],by kernel_rfl,fun _ _=>rfl,gp rfl,fun _=>rfl⟩
  · cases h1;exact ⟨.agg #[.int .i64 0,.int .i64 0,.int .i64 0,.int .i64 0],by kernel_rfl,fun _ _=>rfl,gp rfl,fun _=>rfl⟩
  · cases h1;exact ⟨.agg #[.int .i64 0,.bool false,.slice none 0 0,.int .i64 0],by kernel_rfl,fun _ _=>rfl,gp rfl,fun _=>rfl⟩
  · cases h1;exact ⟨.agg #[.bool false,.int .i64 0,.bool false,.bool false],by kernel_rfl,fun _ _=>rfl,gp rfl,fun _=>rfl⟩
  · cases h1;exact ⟨.agg #[.nilFunc,.nilFunc],by kernel_rfl,fun _ _=>rfl,gp rfl,fun _=>rfl⟩
  · cases h1;exact ⟨.agg #[.nilFunc,.nilFunc,.nilFunc,.nilFunc,.nilFunc,.nilFunc,.nilFunc,.nilFunc,.nilFunc,.nilFunc],by kernel_rfl,fun _ _=>rfl,gp rfl,fun _=>rfl⟩
  · cases h1;exact ⟨.agg #[.int .i64 0,.bool false,.slice none 0 0,.int .i64 0,.int .i64 0,.bool false,.slice none 0 0,.int .i64 0],by kernel_rfl,fun _ _=>rfl,gp rfl,fun _=>rfl⟩
  · cases h1;exact ⟨.agg #[.bool false,.slice none 0 0,.slice none 0 0,.bool false,.slice none 0 0,.slice none 0 0],by kernel_rfl,fun _ _=>rfl,gp rfl,fun _=>rfl⟩
  · cases h1;exact ⟨.agg #[.int .u8 0,.int .u8 0],by kernel_rfl,fun _ _=>rfl,gp rfl,fun _=>rfl⟩
  · cases h1
 size t m r h:=by
  have h1:tyN t=some (m,r):=h
  unfold tyN at h1
  split at h1
  · cases h1;exact ⟨by kernel_rfl,_,Tryz.underlying4,rfl⟩
  · cases h1;exact ⟨by kernel_rfl,_,Tryz.underlying3,rfl⟩
  · cases h1;exact ⟨by kernel_rfl,_,Tryz.underlying24,rfl⟩
  · cases h1;exact ⟨by kernel_rfl,_,Tryz.underlying46,rfl⟩
  · cases h1;exact ⟨by kernel_rfl,_,Tryz.underlying5,rfl⟩
  · cases h1;exact ⟨by kernel_rfl,_,Tryz.underlying2,rfl⟩
  · cases h1;exact ⟨by kernel_rfl,_,Tryz.underlying88,rfl⟩
  · cases h1;exact ⟨by kernel_rfl,_,Tryz.underlying89,rfl⟩
  · cases h1;exact ⟨by kernel_rfl,_,Tryz.underlying62,rfl⟩
  · cases h1;exact ⟨by kernel_rfl,_,Tryz.underlying34,rfl⟩
  · cases h1;exact ⟨by kernel_rfl,_,Tryz.underlying36,rfl⟩
  · cases h1;exact ⟨by kernel_rfl,_,Tryz.underlying23,rfl⟩
  · cases h1;exact ⟨by kernel_rfl,_,Tryz.underlying26,rfl⟩
  · cases h1;exact ⟨by kernel_rfl,_,Tryz.underlying96,rfl⟩
  · cases h1;exact ⟨by kernel_rfl,_,Tryz.underlying91,rfl⟩
  · cases h1;exact ⟨by kernel_rfl,_,Tryz.underlying92,rfl⟩
  · cases h1;exact ⟨by kernel_rfl,_,Tryz.underlying27,rfl⟩
  · cases h1;exact ⟨by kernel_rfl,_,Tryz.underlying59,rfl⟩
  · cases h1;exact ⟨by kernel_rfl,_,Tryz.underlying64,rfl⟩
  · cases h1
 off s k o h:=by
  have h1:tyO s k=some o:=h
  unfold tyO at h1
  split at h1
  · cases h1;exact eY (m:=0) Tryz.underlying34 rfl (by kernel_rfl) rfl
  · cases h1;exact eY (m:=0) Tryz.underlying34 rfl (by kernel_rfl) rfl
  · cases h1;exact eY (m:=1) Tryz.underlying36 rfl (by kernel_rfl) rfl
  · cases h1;exact eY (m:=0) Tryz.underlying36 rfl (by kernel_rfl) rfl
  · cases h1;exact eY (m:=0) Tryz.underlying23 rfl (by kernel_rfl) rfl
  · cases h1;exact eY (m:=0) Tryz.underlying23 rfl (by kernel_rfl) rfl
  · cases h1;exact eY (m:=0) Tryz.underlying23 rfl (by kernel_rfl) rfl
  · cases h1;exact eY (m:=0) Tryz.underlying23 rfl (by kernel_rfl) rfl
  · cases h1;exact eY (m:=0) Tryz.underlying26 rfl (by kernel_rfl) rfl
  · cases h1;exact eY (m:=0) Tryz.underlying26 rfl (by kernel_rfl) rfl
  · cases h1;exact eY (m:=0) Tryz.underlying26 rfl (by kernel_rfl) rfl
  · cases h1;exact eY (m:=0) Tryz.underlying26 rfl (by kernel_rfl) rfl
  · cases h1;exact eY (m:=0) Tryz.underlying96 rfl (by kernel_rfl) rfl
  · cases h1;exact eY (m:=0) Tryz.underlying96 rfl (by kernel_rfl) rfl
  · cases h1;exact eY (m:=0) Tryz.underlying96 rfl (by kernel_rfl) rfl
  · cases h1;exact eY (m:=0) Tryz.underlying96 rfl (by kernel_rfl) rfl
  · cases h1;exact eY (m:=0) Tryz.underlying91 rfl (by kernel_rfl) rfl
  · cases h1;exact eY (m:=0) Tryz.underlying91 rfl (by kernel_rfl) rfl
  · cases h1
end Go.Proofs.YtgcieamfidoaoaaGreatDoor.Rf
/- A straight region of a plan, with the seqs ahead of it. -/
namespace Go.Proofs.YtgcieamfidoaoaaGreatDoor.Pl
open Go
set_option maxRecDepth 100000
def sqs:Nat→List Code→List Code
 | m+1,.seq a b::r=>sqs m (a::b::r)
 | _,r=>r
section
variable {P:Program} {Q:Exit→Act→World→Prop} {n:Nat} {ds:List Deferred} {cs:List Code} {l:List (Nat × Value)} {w:World}
theorem acd:∀ (m:Nat) {cs:List Code},V P Q n ds (sqs m cs) l w→V P Q n ds cs l w
 | 0,cs,h=>by
  have e:sqs 0 cs=cs:=by cases cs with | nil=>rfl | cons c r=>cases c<;>rfl
  rw [e] at h;exact h
 | m+1,cs,h=>by
  cases cs with
  | nil=>exact h
  | cons c r=>cases c with
   | seq a b=>exact aG (acd m h)
   | _=>exact h
theorem aab {cs0:List Code} {id:Nat} {L:List Oper} (e:sqs 200 cs0 = .region id L.toArray false::cs) (h:fF P L (fun _=>True) (V P Q n ds cs) (Py 0 L) l w) (hk:rZ n L=true:=by kernel_rfl):V P Q n ds cs0 l w:=acd 200 (by rw [e];exact aB hk h)
end
end Go.Proofs.YtgcieamfidoaoaaGreatDoor.Pl
/- Differences, products, floors; as rationals. -/
namespace Go.Proofs.YtgcieamfidoaoaaGreatDoor
open Go.RowKit 
set_option maxRecDepth 100000
theorem KX (w:World)  :
  Calls Tryz.prog 93 #[] w fun e w'=>∃ u,e = .returned u∧Un w' u 1∧Pl.Ex w w':=by
 refine Pl.dF (n:=2) (vs:=[]) Tryz.func93 rfl (by kernel_rfl) (by simp) ?_
 refine Pl.aab rfl ?_
 refine Pl.jB trivial rfl ?_
 refine Pl.aH ?_
 refine Pl.aab rfl ?_
 refine Pl.WE (e := 57) (n:=1) [.int .u32 1] rfl rfl rfl rfl (by kernel_rfl) (fun Y hY=>trivial) ?_
 intro N1 w1 hE1 vM eX
 have DT:=Pl.Cb.lt eX
 have Tx:=Pl.Ex.size hE1
 refine Pl.jB trivial rfl ?_
 refine Pl.aH ?_
 have hl2:=Un.one (x:=1) eX rfl (by omega)
 repeat refine Pl.aG ?_
 exact Pl.iV rfl rfl  (⟨_,rfl,hl2,hE1⟩)
theorem Qn.of {w:World} {A A2:Option Addr} {c c2 L M d l2:Nat} {n:Int} {q:Rat} (h1:q.num=n) (h2:q.den=d) (u:Un w (.slice A (limbs n.natAbs).length c) n.natAbs) (u2:Un w (.slice A2 l2 c2) d) (h3:Sz n L) (h4:Sn d M) :
  Qn w (.agg #[.bool (decide (n<0)),.slice A (limbs n.natAbs).length c,.slice A2 l2 c2]) q L M:=by
 subst h1 h2
 obtain rfl:l2=_:=u2.len
 exact Qn.mk u u2 h3 h4
theorem xH (w:World) (vn:Value) (n:Int) (L:Nat) (hn:Zn w vn n) (ln:Sz n L) :
  Calls Tryz.prog 50 #[vn] w fun e w'=>∃ u,e = .returned u∧Qn w' u ((n:Int):Rat) L 1∧Pl.Ex w w':=by
 obtain ⟨An,cn,rfl,un⟩:=hn
 refine Pl.dF (n:=6) (vs:=[.agg #[.bool (decide (n<0)),.slice An (limbs (Int.natAbs n)).length cn]]) Tryz.func50 rfl (by kernel_rfl) (by simp) ?_
 refine Pl.aab rfl ?_
 refine Pl.oW (cs:=[.bool (decide (n<0)),.slice An (limbs (Int.natAbs n)).length cn]) rfl rfl rfl rfl rfl rfl (fun Y hY=>trivial) ?_
 intro N1 w1 hE1 vM eX
 have DT:=Pl.Cb.lt eX
 have Tx:=Pl.Ex.size hE1
 refine Pl.mI (z:=.agg #[.bool false,.slice none 0 0,.slice none 0 0]) (by kernel_rfl) rfl rfl rfl rfl (fun Y hY=>trivial) ?_
 intro N2 w2 hE2 zV eO
 have Iw:=Pl.Cb.lt eO
 have UO:=Pl.Ex.size hE2
 replace eO:Pl.Cb w2 N2 36 [.bool false,.slice none 0 0,.slice none 0 0]:=eO
 refine Pl.aH ?_
 repeat refine Pl.aG ?_
 refine Pl.qc (S:=fun X=>Pl.Ex w1 X) [(true,0,0),(false,1,1),(true,2,3),(false,3,7)] fo Pl.gQ (by kernel_rfl) (Pl.Ex.trans hE2 (Pl.Ex.drew _)) ?_
 have gF:=Pl.Ex.drew w2
 generalize w2.drew=w3 at *
 have UQ:=Pl.Ex.size gF
 intro DV
 refine Pl.Q8 (part:=[.bool (decide (n<0)),.slice An (limbs (Int.natAbs n)).length cn]) (fun X hX=>Pl.Cb.ex eX hX) rfl Tryz.underlying34 rfl (by kernel_rfl) DV rfl rfl rfl rfl rfl ?_
 refine Pl.bX rfl rfl rfl rfl rfl (Pl.en Tryz.func93) ?_
 refine Calls.mono (KX _) ?_
 rintro e w4 ⟨v3,rfl,hv3,kM⟩
 have WC:=Pl.Ex.size kM
 have zY:=Pl.Ex.trans DV kM
 refine ⟨_,rfl,zY,?_⟩
 obtain ⟨A4,c5,rfl⟩:=Un.jX hv3
 refine Pl.mo (.agg #[.bool (decide (n<0)),.slice An (limbs (Int.natAbs n)).length cn,(.slice A4 (limbs 1).length c5)]) zY rfl rfl rfl rfl (fun X=>by kernel_rfl) ?_
 refine Pl.lI (new:=[.bool (decide (n<0)),.slice An (limbs (Int.natAbs n)).length cn,(.slice A4 (limbs 1).length c5)]) (Pl.Cb.ex eO (Pl.Ex.trans gF kM)) (by kernel_rfl) rfl (by simp [Value.oneCell']) rfl rfl rfl rfl rfl rfl (fun Y hY=>Pl.Ex.xs zY hY (by omega)) ?_
 intro w5 DW Ck
 have nC:=Pl.Ex.xs (Pl.Ex.trans hE2 (Pl.Ex.trans gF kM)) DW (by omega)
 have Z4:=Pl.Xs.size DW
 have hS5:=Pl.Ex.xs zY DW (by omega)
 refine Pl.aH ?_
 have k6:=Un.xs hv3 DW (Pl.Cb.ex eO (Pl.Ex.trans gF kM)) (by simp)
 repeat refine Pl.aG ?_
 exact Pl.lJ rfl rfl Ck Tryz.underlying36 rfl (by kernel_rfl) (⟨_,rfl,Qn.of (q:=((n:Int):Rat)) rfl rfl (Un.below un (Pl.Ex.trans hE1 nC)) k6 ln (show Sn 1 1 from Sn.of (by decide)),(Pl.Ex.trans hE1 nC)⟩)
end Go.Proofs.YtgcieamfidoaoaaGreatDoor
