/- What is known of the types of stage 10. -/
import Derived.Test.YtgcieamfidoaoaaGreatDoorBao
import Derived.Test.YtgcieamfidoaoaaGreatDoorBal
import Derived.Test.YtgcieamfidoaoaaGreatDoorBan
import Derived.Test.YtgcieamfidoaoaaGreatDoorBae
import Derived.Test.YtgcieamfidoaoaaGreatDoorBam
import Derived.Test.YtgcieamfidoaoaaGreatDoorBap
import Derived.Deep.Cut
import Derived.Deep.RegionHeld3
set_option linter.all false
set_option maxHeartbeats 8000000
namespace Go.Proofs.YtgcieamfidoaoaaGreatDoor.Rf
open Go Go.RowKit Go.Proofs.YtgcieamfidoaoaaGreatDoor.Pl
set_option maxRecDepth 100000
def S9:List SV→Bool
 | []=>true
 | .v x::l=>bG x&&S9 l
 | _=>false
theorem gp:∀ {l:List SV},S9 l=true→∀ α γ,∀ c∈bZ α γ l,bG c=true
 | [],_,_,_,c,hc=>by cases hc
 | .v x::l,h,α,γ,c,hc=>by
  have h1:(bG x&&S9 l)=true:=h
  rw [Bool.and_eq_true] at h1
  rcases List.mem_cons.1 (show c∈x::bZ α γ l from hc) with rfl | hc
  · exact h1.1
  · exact gp h1.2 α γ c hc
def tyZ:TypeId→Option (List SV)
 | 4 => some [vF]
 | 3 => some [vI 0]
 | 24 => some [vN]
 | 46 => some [vI 0]
 | 5 => some [.v (.int .u8 0)]
 | 2 => some [vI 0]
 | 88 => some [.v (.nilFunc)]
 | 89 => some [.v (.nilFunc)]
 | 62 => some [.v (.nilFunc)]
 | 34 => some [vF,vN]
 | 36 => some [vF,vN,vN]
 | 23 => some [vI 0,vI 0,vI 0,vI 0]
 | 26 => some [vI 0,vF,vN,vI 0]
 | 96 => some [vF,vI 0,vF,vF]
 | 91 => some [.v (.nilFunc),.v (.nilFunc)]
 | 92 => some [.v (.nilFunc),.v (.nilFunc),.v (.nilFunc),.v (.nilFunc),.v (.nilFunc),.v (.nilFunc),.v (.nilFunc),.v (.nilFunc),.v (.nilFunc),.v (.nilFunc)]
 | 27 => some [vI 0,vF,vN,vI 0,vI 0,vF,vN,vI 0]
 | 59 => some [vF,vN,vN,vF,vN,vN]
 | 64 => some [.v (.int .u8 0),.v (.int .u8 0)]
 | _=>none
def tyN:TypeId→Option (Nat × Bool)
 | 4 => some (1,false)
 | 3 => some (1,false)
 | 24 => some (1,false)
 | 46 => some (1,false)
 | 5 => some (1,false)
 | 2 => some (1,false)
 | 88 => some (1,false)
 | 89 => some (1,false)
 | 62 => some (1,false)
 | 34 => some (2,true)
 | 36 => some (3,true)
 | 23 => some (4,true)
 | 26 => some (4,true)
 | 96 => some (4,true)
 | 91 => some (2,true)
 | 92 => some (10,true)
 | 27 => some (8,true)
 | 59 => some (6,true)
 | 64 => some (2,true)
 | _=>none
def tyO:TypeId→Nat→Option Nat
 | 34,0=>some 0
 | 34,1=>some 1
 | 36,0=>some 0
 | 36,1=>some 2
 | 23,0=>some 0
 | 23,1=>some 1
 | 23,2=>some 2
 | 23,3=>some 3
 | 26,0=>some 0
 | 26,1=>some 1
 | 26,2=>some 2
 | 26,3=>some 3
 | 96,0=>some 0
 | 96,1=>some 1
 | 96,2=>some 2
 | 96,3=>some 3
 | 91,0=>some 0
 | 91,1=>some 1
 | _,_=>none
def tI:TI:=⟨tyZ,tyN,tyO⟩
theorem aa:E8 Tryz.prog tI where
 zero t cs h:=by
  have h1:tyZ t=some cs:=h
  unfold tyZ at h1
  split at h1
  · cases h1;exact ⟨.bool false,by kernel_rfl,fun _ _=>rfl,gp rfl,fun _=>rfl⟩
  · cases h1;exact ⟨.int .i64 0,by kernel_rfl,fun _ _=>rfl,gp rfl,fun _=>rfl⟩
  · cases h1;exact ⟨.slice none 0 0,by kernel_rfl,fun _ _=>rfl,gp rfl,fun _=>rfl⟩
  · cases h1;exact ⟨.int .i64 0,by kernel_rfl,fun _ _=>rfl,gp rfl,fun _=>rfl⟩
  · cases h1;exact ⟨.int .u8 0,by kernel_rfl,fun _ _=>rfl,gp rfl,fun _=>rfl⟩
  · cases h1;exact ⟨.int .i64 0,by kernel_rfl,fun _ _=>rfl,gp rfl,fun _=>rfl⟩
  · cases h1;exact ⟨.nilFunc,by kernel_rfl,fun _ _=>rfl,gp rfl,fun _=>rfl⟩
  · cases h1;exact ⟨.nilFunc,by kernel_rfl,fun _ _=>rfl,gp rfl,fun _=>rfl⟩
  · cases h1;exact ⟨.nilFunc,by kernel_rfl,fun _ _=>rfl,gp rfl,fun _=>rfl⟩
  · cases h1;exact ⟨.agg #[.bool false,.slice none 0 0],by kernel_rfl,fun _ _=>rfl,gp rfl,fun _=>rfl⟩
  · cases h1;exact ⟨.agg #[.bool false,.slice none 0 0,.slice none 0 0],by kernel_rfl,fun _ _=>rfl,gp rfl,fun _=>rfl⟩
  · cases h1;exact ⟨.agg #[.int .i64 0,.int .i64 0,.int .i64 0,.int .i64 0],by kernel_rfl,fun _ _=>rfl,gp rfl,fun _=>rfl⟩
  · cases h1;exact ⟨.agg #[.int .i64 0,.bool false,.slice none 0 0,.int .i64 0],by kernel_rfl,fun _ _=>rfl,gp rfl,fun _=>rfl⟩
  · cases h1;exact ⟨.agg #[.bool false,.int .i64 0,.bool false,.bool false],by kernel_rfl,fun _ _=>rfl,gp rfl,fun _=>rfl⟩
  · cases h1;exact ⟨.agg #[.nilFunc,.nilFunc],by kernel_rfl,fun _ _=>rfl,gp rfl,fun _=>rfl⟩
  · cases h1;exact ⟨.agg #[.nilFunc,.nilFunc,.nilFunc,.nilFunc,.nilFunc,.nilFunc,.nilFunc,.nilFunc,.nilFunc,.nilFunc],by kernel_rfl,fun _ _=>rfl,gp rfl,fun _=>rfl⟩
  · cases h1;exact ⟨.agg #[.int .i64 0,.bool false,.slice none 0 0,.int .i64 0,.int .i64 0,.bool false,.slice none 0 0,.int .i64 0],by kernel_rfl,fun _ _=>rfl,gp rfl,fun _=>rfl⟩
  · cases h1;exact ⟨.agg #[.bool false,.slice none 0 0,.slice none 0 0,.bool false,.slice none 0 0,.slice none 0 0],by kernel_rfl,fun _ _=>rfl,gp rfl,fun _=>rfl⟩
  · cases h1;exact ⟨.agg #[.int .u8 0,.int .u8 0],by kernel_rfl,fun _ _=>rfl,gp rfl,fun _=>rfl⟩
  · cases h1
 size t m r h:=by
  have h1:tyN t=some (m,r):=h
  unfold tyN at h1
  split at h1
  · cases h1;exact ⟨by kernel_rfl,_,Tryz.underlying4,rfl⟩
  · cases h1;exact ⟨by kernel_rfl,_,Tryz.underlying3,rfl⟩
  · cases h1;exact ⟨by kernel_rfl,_,Tryz.underlying24,rfl⟩
  · cases h1;exact ⟨by kernel_rfl,_,Tryz.underlying46,rfl⟩
  · cases h1;exact ⟨by kernel_rfl,_,Tryz.underlying5,rfl⟩
  · cases h1;exact ⟨by kernel_rfl,_,Tryz.underlying2,rfl⟩
  · cases h1;exact ⟨by kernel_rfl,_,Tryz.underlying88,rfl⟩
  · cases h1;exact ⟨by kernel_rfl,_,Tryz.underlying89,rfl⟩
  · cases h1;exact ⟨by kernel_rfl,_,Tryz.underlying62,rfl⟩
  · cases h1;exact ⟨by kernel_rfl,_,Tryz.underlying34,rfl⟩
  · cases h1;exact ⟨by kernel_rfl,_,Tryz.underlying36,rfl⟩
  · cases h1;exact ⟨by kernel_rfl,_,Tryz.underlying23,rfl⟩
  · cases h1;exact ⟨by kernel_rfl,_,Tryz.underlying26,rfl⟩
  · cases h1;exact ⟨by kernel_rfl,_,Tryz.underlying96,rfl⟩
  · cases h1;exact ⟨by kernel_rfl,_,Tryz.underlying91,rfl⟩
  · cases h1;exact ⟨by kernel_rfl,_,Tryz.underlying92,rfl⟩
  · cases h1;exact ⟨by kernel_rfl,_,Tryz.underlying27,rfl⟩
  · cases h1;exact ⟨by kernel_rfl,_,Tryz.underlying59,rfl⟩
  · cases h1;exact ⟨by kernel_rfl,_,Tryz.underlying64,rfl⟩
  · cases h1
 off s k o h:=by
  have h1:tyO s k=some o:=h
  unfold tyO at h1
  split at h1
  · cases h1;exact eY (m:=0) Tryz.underlying34 rfl (by kernel_rfl) rfl
  · cases h1;exact eY (m:=0) Tryz.underlying34 rfl (by kernel_rfl) rfl
  · cases h1;exact eY (m:=1) Tryz.underlying36 rfl (by kernel_rfl) rfl
  · cases h1;exact eY (m:=0) Tryz.underlying36 rfl (by kernel_rfl) rfl
  · cases h1;exact eY (m:=0) Tryz.underlying23 rfl (by kernel_rfl) rfl
  · cases h1;exact eY (m:=0) Tryz.underlying23 rfl (by kernel_rfl) rfl
  · cases h1;exact eY (m:=0) Tryz.underlying23 rfl (by kernel_rfl) rfl
  · cases h1;exact eY (m:=0) Tryz.underlying23 rfl (by kernel_rfl) rfl
  · cases h1;exact eY (m:=0) Tryz.underlying26 rfl (by kernel_rfl) rfl
  · cases h1;exact eY (m:=0) Tryz.underlying26 rfl (by kernel_rfl) rfl
  · cases h1;exact eY (m:=0) Tryz.underlying26 rfl (by kernel_rfl) rfl
  · cases h1;exact eY (m:=0) Tryz.underlying26 rfl (by kernel_rfl) rfl
  · cases h1;exact eY (m:=0) Tryz.underlying96 rfl (by kernel_rfl) rfl
  · cases h1;exact eY (m:=0) Tryz.underlying96 rfl (by kernel_rfl) rfl
  · cases h1;exact eY (m:=0) Tryz.underlying96 rfl (by kernel_rfl) rfl
  · cases h1;exact eY (m:=0) Tryz.underlying96 rfl (by kernel_rfl) rfl
  · cases h1;exact eY (m:=0) Tryz.underlying91 rfl (by kernel_rfl) rfl
  · cases h1;exact eY (m:=0) Tryz.underlying91 rfl (by kernel_rfl) rfl
  · cases h1
end Go.Proofs.YtgcieamfidoaoaaGreatDoor.Rf
/- Differences, products, floors; as rationals. -/
namespace Go.Proofs.YtgcieamfidoaoaaGreatDoor
open Go.RowKit 
set_option maxRecDepth 100000
theorem KX (w:World)  :
  Calls Tryz.prog 93 #[] w fun e w'=>∃ u,e = .returned u∧Un w' u 1∧Pl.Ex w w':=by
 refine Pl.dF (n:=2) (vs:=[]) Tryz.func93 rfl (by kernel_rfl) (by simp) ?_
 repeat refine Pl.aG ?_
 refine Pl.aB (by kernel_rfl) ?_
 refine Pl.jB trivial rfl ?_
 refine Pl.aH ?_
 repeat refine Pl.aG ?_
 refine Pl.aB (by kernel_rfl) ?_
 refine Pl.WE (e := 57) (n:=1) [.int .u32 1] rfl rfl rfl rfl (by kernel_rfl) (fun Y hY=>trivial) ?_
 intro N1 w1 hE1 vM eX
 have DT:=Pl.Cb.lt eX
 have Tx:=Pl.Ex.size hE1
 refine Pl.jB trivial rfl ?_
 refine Pl.aH ?_
 have hl2:=Un.one (x:=1) eX rfl (by omega)
 repeat refine Pl.aG ?_
 exact Pl.iV rfl rfl  (⟨_,rfl,hl2,hE1⟩)
theorem Qn.of {w:World} {A A2:Option Addr} {c c2 L M d l2:Nat} {n:Int} {q:Rat} (h1:q.num=n) (h2:q.den=d) (u:Un w (.slice A (limbs n.natAbs).length c) n.natAbs) (u2:Un w (.slice A2 l2 c2) d) (h3:Sz n L) (h4:Sn d M) :
  Qn w (.agg #[.bool (decide (n<0)),.slice A (limbs n.natAbs).length c,.slice A2 l2 c2]) q L M:=by
 subst h1 h2
 obtain rfl:l2=_:=u2.len
 exact Qn.mk u u2 h3 h4
theorem xH (w:World) (vn:Value) (n:Int) (L:Nat) (hn:Zn w vn n) (ln:Sz n L) :
  Calls Tryz.prog 50 #[vn] w fun e w'=>∃ u,e = .returned u∧Qn w' u ((n:Int):Rat) L 1∧Pl.Ex w w':=by
 obtain ⟨An,cn,rfl,un⟩:=hn
 refine Pl.dF (n:=6) (vs:=[.agg #[.bool (decide (n<0)),.slice An (limbs (Int.natAbs n)).length cn]]) Tryz.func50 rfl (by kernel_rfl) (by simp) ?_
 repeat refine Pl.aG ?_
 refine Pl.aB (by kernel_rfl) ?_
 refine Pl.oW (cs:=[.bool (decide (n<0)),.slice An (limbs (Int.natAbs n)).length cn]) rfl rfl rfl rfl rfl rfl (fun Y hY=>trivial) ?_
 intro N1 w1 hE1 vM eX
 have DT:=Pl.Cb.lt eX
 have Tx:=Pl.Ex.size hE1
 refine Pl.mI (z:=.agg #[.bool false,.slice none 0 0,.slice none 0 0]) (by kernel_rfl) rfl rfl rfl rfl (fun Y hY=>trivial) ?_
 intro N2 w2 hE2 zV eO
 have Iw:=Pl.Cb.lt eO
 have UO:=Pl.Ex.size hE2
 replace eO:Pl.Cb w2 N2 36 [.bool false,.slice none 0 0,.slice none 0 0]:=eO
 refine Pl.aH ?_
 repeat refine Pl.aG ?_
 refine Pl.qc (S:=fun X=>Pl.Ex w1 X) [(true,0,0),(false,1,1),(true,2,3),(false,3,7)] fo Pl.gQ (by kernel_rfl) (Pl.Ex.trans hE2 (Pl.Ex.drew _)) ?_
 have gF:=Pl.Ex.drew w2
 generalize w2.drew=w3 at *
 have UQ:=Pl.Ex.size gF
 intro DV
 refine Pl.Q8 (part:=[.bool (decide (n<0)),.slice An (limbs (Int.natAbs n)).length cn]) (fun X hX=>Pl.Cb.ex eX hX) rfl Tryz.underlying34 rfl (by kernel_rfl) DV rfl rfl rfl rfl rfl ?_
 refine Pl.bX rfl rfl rfl rfl rfl (Pl.en Tryz.func93) ?_
 refine Calls.mono (KX _) ?_
 rintro e w4 ⟨v3,rfl,hv3,kM⟩
 have WC:=Pl.Ex.size kM
 have zY:=Pl.Ex.trans DV kM
 refine ⟨_,rfl,zY,?_⟩
 obtain ⟨A4,c5,rfl⟩:=Un.jX hv3
 refine Pl.mo (.agg #[.bool (decide (n<0)),.slice An (limbs (Int.natAbs n)).length cn,(.slice A4 (limbs 1).length c5)]) zY rfl rfl rfl rfl (fun X=>by kernel_rfl) ?_
 refine Pl.lI (new:=[.bool (decide (n<0)),.slice An (limbs (Int.natAbs n)).length cn,(.slice A4 (limbs 1).length c5)]) (Pl.Cb.ex eO (Pl.Ex.trans gF kM)) (by kernel_rfl) rfl (by simp [Value.oneCell']) rfl rfl rfl rfl rfl rfl (fun Y hY=>Pl.Ex.xs zY hY (by omega)) ?_
 intro w5 DW Ck
 have nC:=Pl.Ex.xs (Pl.Ex.trans hE2 (Pl.Ex.trans gF kM)) DW (by omega)
 have Z4:=Pl.Xs.size DW
 have hS5:=Pl.Ex.xs zY DW (by omega)
 refine Pl.aH ?_
 have k6:=Un.xs hv3 DW (Pl.Cb.ex eO (Pl.Ex.trans gF kM)) (by simp)
 repeat refine Pl.aG ?_
 exact Pl.lJ rfl rfl Ck Tryz.underlying36 rfl (by kernel_rfl) (⟨_,rfl,Qn.of (q:=((n:Int):Rat)) rfl rfl (Un.below un (Pl.Ex.trans hE1 nC)) k6 ln (show Sn 1 1 from Sn.of (by decide)),(Pl.Ex.trans hE1 nC)⟩)
end Go.Proofs.YtgcieamfidoaoaaGreatDoor
/- The document's greatest common divisor. -/
namespace Go.Proofs.YtgcieamfidoaoaaGreatDoor
open Go.RowKit
set_option maxRecDepth 100000
namespace EQB
set_option maxRecDepth 100000
theorem ae5 (u:Array Value) (X:World):(callFunc 91 u).run Tryz.prog X = .ok (.enter 91 u) X:=Pl.enters Tryz.func91 (by kernel_rfl) rfl u X
end EQB
open EQB
theorem tQ (x y:Nat):Nat.gcd y (x%y)=Nat.gcd x y:=by rw [Nat.gcd_comm x y,Nat.gcd_rec y x,Nat.gcd_comm]
theorem ae6 (w:World) (va vb:Value) (a b g:Nat) (ha:Un w va a) (hb:Un w vb b) (hla:Sn a 100) (hlb:Sn b 100) (hg:Nat.gcd a b=g) :
  Calls Tryz.prog 105 #[va,vb] w fun e w'=>∃ u,e = .returned u∧Un w' u g∧Ext w w':=by
 refine Pl.dF (n:=21) (vs:=[va,vb]) Tryz.func105 rfl (by kernel_rfl) (by simp) ?_
 refine Pl.aG ?_
 refine Pl.aB (by kernel_rfl) ?_
 refine Pl.aF trivial rfl rfl rfl rfl rfl ?_
 refine Pl.aH ?_
 refine Pl.aG ?_
 refine Pl.lM [(0,va),(1,vb)] (Pl.aj rfl (Pl.aj rfl Pl.dQ)) ?_
 refine Pl.ko ?_
 refine Pl.tN (fun k l' w'=>∃ (x y:Nat) (u v:Value),k=y∧Nat.gcd x y=g∧Sn x 100∧Sn y 100∧Ext w w'∧Un w' u x∧Un w' v y∧l'=[(0,u),(1,v)]) b ⟨a,b,va,vb,rfl,hg,hla,hlb,Ext.refl w,ha,hb,rfl⟩ ?_
 rintro y _ w1 ⟨x,_,u,v,rfl,hgk,hx,hy,hB1,h_u,h_v,rfl⟩
 obtain ⟨A_v,c_v,rfl,-⟩:=Un.sh h_v
 rcases Nat.eq_zero_or_pos y with hy0 | hy0
 · refine Pl.aG ?_
   refine Pl.aG ?_
   refine Pl.aB (by kernel_rfl) ?_
   refine Pl.az trivial rfl rfl rfl rfl rfl ?_
   refine iY trivial rfl rfl rfl rfl rfl ?_
   refine Pl.bn (v:=(.bool false)) trivial rfl rfl rfl rfl rfl rfl (fun X=>yc (decide_eq_false (Cv hy0)) X) ?_
   refine Pl.aH ?_
   refine Pl.gX rfl ?_
   refine Pl.tO ?_
   refine Pl.aG ?_
   refine Pl.aB (by kernel_rfl) ?_
   refine Pl.az trivial rfl rfl rfl rfl rfl ?_
   refine Pl.aF trivial rfl rfl rfl rfl rfl ?_
   refine Pl.aH ?_
   refine Pl.iV rfl rfl ?_
   exact ⟨_,rfl,by rw [← hgk,hy0,Nat.gcd_zero_right];exact h_u,hB1⟩
 · refine Pl.aG ?_
   refine Pl.aG ?_
   refine Pl.aB (by kernel_rfl) ?_
   refine Pl.az trivial rfl rfl rfl rfl rfl ?_
   refine iY trivial rfl rfl rfl rfl rfl ?_
   refine Pl.bn (v:=(.bool true)) trivial rfl rfl rfl rfl rfl rfl (fun X=>yc (decide_eq_true (Mm hy0)) X) ?_
   refine Pl.aH ?_
   refine Pl.jV rfl ?_
   refine Pl.iT ?_
   refine Pl.ko ?_
   refine Pl.aG ?_
   refine Pl.aB (by kernel_rfl) ?_
   refine Pl.az trivial rfl rfl rfl rfl rfl ?_
   refine Pl.az trivial rfl rfl rfl rfl rfl ?_
   refine Pl.bX rfl rfl rfl rfl rfl ae5 ?_
   refine Calls.mono (sI _ _ _ x y _ _ h_u h_v (Sn.le hx (by decide)) (Sn.le hy (by decide)) (Nat.ne_of_gt hy0) rfl rfl) ?_
   rintro e w2 ⟨⟨ae8,ack,rfl,acm,Za⟩,hB2⟩
   refine ⟨_,rfl,trivial,?_⟩
   have Zb:Sn (x/y) 100:=Sn.div hx
   have acn:Sn (x%y) 100:=Sn.mod hy (Nat.ne_of_gt hy0)
   refine Pl.az trivial rfl rfl rfl rfl rfl ?_
   refine Pl.dS trivial rfl rfl rfl rfl rfl rfl ?_
   refine Pl.dS trivial rfl rfl rfl rfl rfl rfl ?_
   refine Pl.dS trivial rfl rfl rfl rfl rfl rfl ?_
   refine Pl.aF trivial rfl rfl rfl rfl rfl ?_
   refine Pl.aF trivial rfl rfl rfl rfl rfl ?_
   refine Pl.aF trivial rfl rfl rfl rfl rfl ?_
   refine Pl.aH ?_
   refine Pl.aG ?_
   refine Pl.aB (by kernel_rfl) ?_
   refine Pl.az trivial rfl rfl rfl rfl rfl ?_
   refine Pl.aF trivial rfl rfl rfl rfl rfl ?_
   refine Pl.aH ?_
   refine Pl.aB (by kernel_rfl) ?_
   refine Pl.az trivial rfl rfl rfl rfl rfl ?_
   refine Pl.aF trivial rfl rfl rfl rfl rfl ?_
   refine Pl.aH ?_
   refine Pl.iU ?_
   have Zc:=Un.below h_v hB2
   exact Pl.nD [(0,.slice A_v (limbs y).length c_v),(1,ack)] (Pl.aj rfl (Pl.aj rfl Pl.dQ)) (Nat.mod_lt x hy0) ⟨y,x%y,_,_,rfl,(tQ x y).trans hgk,hy,acn,(Ext.below hB1 hB2),Zc,Za,rfl⟩
end Go.Proofs.YtgcieamfidoaoaaGreatDoor
/- Rationals in lowest terms. -/
namespace Go.Proofs.YtgcieamfidoaoaaGreatDoor
open Go.RowKit 
set_option maxRecDepth 100000
theorem Qw {w:World} {A:Option Addr} {c L n:Nat} (h:Un w (.slice A L c) n):Zn w (.agg #[.bool false,.slice A L c]) (n:Int):=by
 obtain rfl:L=_:=h.len
 refine ⟨A,c,?_,h⟩
 rw [show decide (((n:Nat):Int)<0)=false from decide_eq_false (by omega)];rfl
theorem fA (w:World) (va:Value) (a:Nat) (ha:Un w va a) :
  Calls Tryz.prog 68 #[va] w fun e w'=>∃ u,e = .returned u∧Zn w' u ((a:Nat):Int)∧Pl.Ex w w':=by
 refine Pl.dF (n:=5) (vs:=[va]) Tryz.func68 rfl (by kernel_rfl) (by simp) ?_
 repeat refine Pl.aG ?_
 refine Pl.aB (by kernel_rfl) ?_
 refine Pl.mI (z:=.agg #[.bool false,.slice none 0 0]) (by kernel_rfl) rfl rfl rfl rfl (fun Y hY=>trivial) ?_
 intro N1 w1 hE1 vM eX
 have DT:=Pl.Cb.lt eX
 have Tx:=Pl.Ex.size hE1
 replace eX:Pl.Cb w1 N1 34 [.bool false,.slice none 0 0]:=eX
 refine Pl.aH ?_
 repeat refine Pl.aG ?_
 refine Pl.aB (by kernel_rfl) ?_
 refine Pl.jB trivial rfl ?_
 obtain ⟨A2,c3,rfl⟩:=Un.jX (Un.below ha hE1)
 refine Pl.mo (.agg #[.bool false,(.slice A2 (limbs a).length c3)]) trivial rfl rfl rfl rfl (fun X=>by kernel_rfl) ?_
 refine Pl.lI (new:=[.bool false,(.slice A2 (limbs a).length c3)]) eX (by kernel_rfl) rfl (by simp [Value.oneCell']) rfl rfl rfl rfl rfl rfl (fun Y hY=>trivial) ?_
 intro w2 hX2 Zp
 have hE2:=Pl.Ex.xs hE1 hX2 (by omega)
 have UO:=Pl.Xs.size hX2
 refine Pl.aH ?_
 repeat refine Pl.aG ?_
 exact Pl.lJ rfl rfl Zp Tryz.underlying34 rfl (by kernel_rfl) (⟨_,rfl,Qw (Un.below ha hE2),hE2⟩)
theorem Sn.Ic {z:Int} {K:Nat} (h:Sz z K):Sn z.natAbs K:=h
theorem mk_pos {n d:Int} {g:Nat} (h0:d≠0) (hg:Nat.gcd n.natAbs d.natAbs=g) (h:¬ d<0):(Rat.divInt n d).num=n/(g:Int)∧(Rat.divInt n d).den=(((d.natAbs:Nat):Int)/(g:Int)).natAbs:=by
 subst hg
 refine ⟨by rw [Rq.Sd h0,if_neg h],by rw [Rq.Si h0];rfl⟩
theorem Sq {n d:Int} {g:Nat} (h0:d≠0) (hg:Nat.gcd n.natAbs d.natAbs=g) (h:d<0):(Rat.divInt n d).num = -(n/(g:Int))∧(Rat.divInt n d).den=(((d.natAbs:Nat):Int)/(g:Int)).natAbs:=by
 subst hg
 refine ⟨by rw [Rq.Sd h0,if_pos h],by rw [Rq.Si h0];rfl⟩
theorem kK (w:World) (vn vd:Value) (n d:Int) (hn:Zn w vn n) (hd:Zn w vd d) (L M:Nat) (ln:Sz n L) (ld:Sz d M) (hL:L≤100) (hM:M≤100) (hd0:d≠0) :
  Calls Tryz.prog 59 #[vn,vd] w fun e w'=>∃ u,e = .returned (.tuple #[u,.int .i64 0])∧Qn w' u (Rat.divInt n d) L M∧Pl.Ex w w':=by
 obtain ⟨An,cn,rfl,un⟩:=hn
 obtain ⟨Ad,cd,rfl,ud⟩:=hd
 obtain ⟨g,hgg⟩:∃ g,Nat.gcd n.natAbs d.natAbs=g:=⟨_,rfl⟩
 have hg0:g≠0:=by rw [← hgg];exact fun h=>hd0 (Int.natAbs_eq_zero.1 (Nat.eq_zero_of_gcd_eq_zero_right h))
 have lg:Sn g 100:=by rw [← hgg];exact Sn.down (n:=d.natAbs) (Sn.le ld (by omega)) (Nat.gcd_le_right _ (by omega))
 have dn:n%(g:Int)=0:=by rw [← hgg];exact Int.emod_eq_zero_of_dvd (Int.dvd_natAbs.1 (Int.natCast_dvd_natCast.2 (Nat.gcd_dvd_left _ _)))
 have dd:((d.natAbs:Nat):Int)%(g:Int)=0:=by rw [← hgg];exact Int.emod_eq_zero_of_dvd (Int.natCast_dvd_natCast.2 (Nat.gcd_dvd_right _ _))
 refine Pl.dF (n:=44) (vs:=[.agg #[.bool (decide (n<0)),.slice An (limbs (Int.natAbs n)).length cn],.agg #[.bool (decide (d<0)),.slice Ad (limbs (Int.natAbs d)).length cd]]) Tryz.func59 rfl (by kernel_rfl) (by simp) ?_
 repeat refine Pl.aG ?_
 refine Pl.aB (by kernel_rfl) ?_
 refine Pl.oW (cs:=[.bool (decide (n<0)),.slice An (limbs (Int.natAbs n)).length cn]) rfl rfl rfl rfl rfl rfl (fun Y hY=>trivial) ?_
 intro N1 w1 hE1 vM eX
 have DT:=Pl.Cb.lt eX
 have Tx:=Pl.Ex.size hE1
 refine Pl.oW (cs:=[.bool (decide (d<0)),.slice Ad (limbs (Int.natAbs d)).length cd]) rfl rfl rfl rfl rfl rfl (fun Y hY=>trivial) ?_
 intro N2 w2 hE2 zV eO
 have Iw:=Pl.Cb.lt eO
 have UO:=Pl.Ex.size hE2
 refine Pl.mI (z:=.agg #[.bool false,.slice none 0 0,.slice none 0 0]) (by kernel_rfl) rfl rfl rfl rfl (fun Y hY=>trivial) ?_
 intro N3 w3 gF Iy eF
 have QY:=Pl.Cb.lt eF
 have UQ:=Pl.Ex.size gF
 replace eF:Pl.Cb w3 N3 36 [.bool false,.slice none 0 0,.slice none 0 0]:=eF
 refine Pl.jB trivial rfl ?_
 refine Pl.aH ?_
 repeat refine Pl.aG ?_
 refine Pl.aB (by kernel_rfl) ?_
 refine Pl.mo (.pointer (some ⟨N2,1,none⟩)) trivial rfl rfl rfl rfl (fun X=>by kernel_rfl) ?_
 refine Pl.rQ (v:=.slice Ad (limbs (Int.natAbs d)).length cd) Tryz.underlying24 rfl (Pl.Cb.at (j:=1) (Pl.Cb.ex eO gF) rfl) trivial rfl rfl rfl rfl rfl ?_
 refine Pl.P7 Tryz.underlying24 trivial rfl rfl rfl rfl rfl ?_
 have ahk:¬ (((limbs (Int.natAbs d)).length)=0):=(fun h9=>hd0 (Int.natAbs_eq_zero.1 (jQ.1 h9)))
 refine Pl.Vl (v:=.bool false) (fun X=>Pl.xA (Pl.e_f (by omega)) X) trivial rfl rfl rfl rfl rfl rfl ?_
 refine Pl.aH ?_
 repeat refine Pl.aG ?_
 refine Pl.gX rfl ?_
 repeat refine Pl.aG ?_
 refine Pl.iT ?_
 repeat refine Pl.aG ?_
 refine Pl.aB (by kernel_rfl) ?_
 refine Pl.mo (.pointer (some ⟨N1,1,none⟩)) trivial rfl rfl rfl rfl (fun X=>by kernel_rfl) ?_
 refine Pl.rQ (v:=.slice An (limbs (Int.natAbs n)).length cn) Tryz.underlying24 rfl (Pl.Cb.at (j:=1) (Pl.Cb.ex eX (Pl.Ex.trans hE2 gF)) rfl) trivial rfl rfl rfl rfl rfl ?_
 refine Pl.mo (.pointer (some ⟨N2,1,none⟩)) trivial rfl rfl rfl rfl (fun X=>by kernel_rfl) ?_
 refine Pl.rQ (v:=.slice Ad (limbs (Int.natAbs d)).length cd) Tryz.underlying24 rfl (Pl.Cb.at (j:=1) (Pl.Cb.ex eO gF) rfl) trivial rfl rfl rfl rfl rfl ?_
 refine Pl.bX rfl rfl rfl rfl rfl (Pl.en Tryz.func105) ?_
 refine Calls.mono (ae6 _ _ _ (Int.natAbs n) (Int.natAbs d) g (Un.below un (Pl.Ex.trans hE1 (Pl.Ex.trans hE2 gF))) (Un.below ud (Pl.Ex.trans hE1 (Pl.Ex.trans hE2 gF))) (Sn.le ln (by omega)) (Sn.le ld (by omega)) hgg) ?_
 rintro e w4 ⟨vg,rfl,hvg,kM⟩
 have WC:=Pl.Ex.size kM
 refine ⟨_,rfl,trivial,?_⟩
 refine Pl.bX rfl rfl rfl rfl rfl (Pl.en Tryz.func68) ?_
 refine Calls.mono (fA _ _ g hvg) ?_
 rintro e w5 ⟨v4,rfl,hv4,nC⟩
 obtain ⟨A5,c6,rfl,u7⟩:=hv4
 have Z4:=Pl.Ex.size nC
 refine ⟨_,rfl,trivial,?_⟩
 refine Pl.mI (z:=.agg #[.bool false,.slice none 0 0]) (by kernel_rfl) rfl rfl rfl rfl (fun Y hY=>trivial) ?_
 intro N8 w6 mG ahl Gc
 have ajE:=Pl.Cb.lt Gc
 have Ty:=Pl.Ex.size mG
 replace Gc:Pl.Cb w6 N8 34 [.bool false,.slice none 0 0]:=Gc
 refine Pl.lI (new:=[.bool (decide (((g:Nat):Int)<0)),.slice A5 (limbs (Int.natAbs ((g:Nat):Int))).length c6]) Gc (by kernel_rfl) rfl (by simp [Value.oneCell']) rfl rfl rfl rfl rfl rfl (fun Y hY=>trivial) ?_
 intro w7 yQ Gd
 have pg:=Pl.Ex.xs mG yQ (by omega)
 have Tz:=Pl.Xs.size yQ
 refine Pl.aH ?_
 repeat refine Pl.aG ?_
 refine Pl.aB (by kernel_rfl) ?_
 refine Pl.jA (part:=[.bool (decide (n<0)),.slice An (limbs (Int.natAbs n)).length cn]) (Pl.Cb.ex eX (Pl.Ex.trans hE2 (Pl.Ex.trans gF (Pl.Ex.trans kM (Pl.Ex.trans nC pg))))) rfl Tryz.underlying34 rfl (by kernel_rfl) trivial rfl rfl rfl rfl rfl ?_
 refine Pl.jA (part:=[.bool (decide (((g:Nat):Int)<0)),.slice A5 (limbs (Int.natAbs ((g:Nat):Int))).length c6]) Gd rfl Tryz.underlying34 rfl (by kernel_rfl) trivial rfl rfl rfl rfl rfl ?_
 refine Pl.bX rfl rfl rfl rfl rfl (Pl.en Tryz.func106) ?_
 refine Calls.mono (pW _ _ _ n ((g:Nat):Int) (Zn.of (Un.below un (Pl.Ex.trans hE1 (Pl.Ex.trans hE2 (Pl.Ex.trans gF (Pl.Ex.trans kM (Pl.Ex.trans nC pg))))))) (Zn.of (Un.below u7 pg)) (Sz.le ln (by omega)) (Sz.le (Sn.sz lg) (by decide)) (by omega) dn _ rfl) ?_
 rintro e w8 ⟨vp,rfl,hvp,EG⟩
 obtain ⟨Ap,cp,rfl,up⟩:=hvp
 have U5:=Pl.Ex.size EG
 refine ⟨_,rfl,trivial,?_⟩
 refine Pl.jB trivial rfl ?_
 refine Pl.mI (z:=.agg #[.bool false,.slice none 0 0]) (by kernel_rfl) rfl rfl rfl rfl (fun Y hY=>trivial) ?_
 intro N9 w9 hE9 ahn Gf
 have ajF:=Pl.Cb.lt Gf
 have sz9:=Pl.Ex.size hE9
 replace Gf:Pl.Cb w9 N9 34 [.bool false,.slice none 0 0]:=Gf
 refine Pl.lI (new:=[.bool (decide ((n/((g:Nat):Int))<0)),.slice Ap (limbs (Int.natAbs (n/((g:Nat):Int)))).length cp]) Gf (by kernel_rfl) rfl (by simp [Value.oneCell']) rfl rfl rfl rfl rfl rfl (fun Y hY=>trivial) ?_
 intro w10 Cy zB
 have uj:=Pl.Ex.xs hE9 Cy (by omega)
 have abW:=Pl.Xs.size Cy
 refine Pl.jB trivial rfl ?_
 refine Pl.aH ?_
 repeat refine Pl.aG ?_
 refine Pl.Zo (fun l' w'=>∃ (Nq:Nat) (Aq:Option Addr) (cq:Nat),Pl.Ex w10 w'∧(Pl.Cb w' Nq 34 [.bool (decide ((((Int.natAbs d:Nat):Int)/((g:Nat):Int))<0)),.slice Aq (limbs (Int.natAbs (((Int.natAbs d:Nat):Int)/((g:Nat):Int)))).length cq])∧(w10.heap.size≤Nq)∧(Un w' (.slice Aq (limbs (Int.natAbs (((Int.natAbs d:Nat):Int)/((g:Nat):Int)))).length cq) (Int.natAbs (((Int.natAbs d:Nat):Int)/((g:Nat):Int))))∧l'=[(2,.pointer (some ⟨N1,0,none⟩)),(3,.pointer (some ⟨N2,0,none⟩)),(4,.pointer (some ⟨N3,0,none⟩)),(5,.int .i64 0),(6,.pointer (some ⟨N8,0,none⟩)),(7,.pointer (some ⟨N9,0,none⟩)),(8,.bool true),(9,.pointer (some ⟨Nq,0,none⟩)),(10,.bool true)]) ?_ fun KY=>?_
 · rintro _ w11 ⟨Nq,Aq,cq,mX,kNq,hNq,uq,rfl⟩
   have YS:=Pl.Ex.size mX
   repeat refine Pl.aG ?_
   refine Pl.aB (by kernel_rfl) ?_
   refine Pl.mo (.pointer (some ⟨N2,0,none⟩)) trivial rfl rfl rfl rfl (fun X=>by kernel_rfl) ?_
   by_cases c11:d<0
   · have hneg:=c11
     refine Pl.rQ (v:=.bool true) Tryz.underlying4 rfl ((by have h9:=(Pl.Cb.at (j:=0) (Pl.Cb.ex eO (Pl.Ex.trans gF (Pl.Ex.trans kM (Pl.Ex.trans nC (Pl.Ex.trans pg (Pl.Ex.trans EG (Pl.Ex.trans uj mX))))))) rfl);rw [decide_eq_true hneg] at h9;exact h9)) trivial rfl rfl rfl rfl rfl ?_
     refine Pl.aH ?_
     repeat refine Pl.aG ?_
     refine Pl.jV rfl ?_
     repeat refine Pl.aG ?_
     refine Pl.aB (by kernel_rfl) ?_
     refine Pl.jA (part:=[.bool (decide ((n/((g:Nat):Int))<0)),.slice Ap (limbs (Int.natAbs (n/((g:Nat):Int)))).length cp]) (Pl.Cb.ex zB mX) rfl Tryz.underlying34 rfl (by kernel_rfl) trivial rfl rfl rfl rfl rfl ?_
     refine Pl.bX rfl rfl rfl rfl rfl (Pl.en Tryz.func84) ?_
     refine Calls.mono (WM _ _ _ (Zn.of (Un.below up (Pl.Ex.trans uj mX))) (Sz.le (Sz.div ln) (by omega)) _ rfl) ?_
     rintro e w12 ⟨vm,rfl,hvm,pK⟩
     obtain ⟨Am,cm,rfl,um⟩:=hvm
     have Ri:=Pl.Ex.size pK
     refine ⟨_,rfl,trivial,?_⟩
     refine Pl.lI (new:=[.bool (decide ((-(n/((g:Nat):Int)))<0)),.slice Am (limbs (Int.natAbs (-(n/((g:Nat):Int))))).length cm]) (Pl.Cb.ex zB (Pl.Ex.trans mX pK)) (by kernel_rfl) rfl (by simp [Value.oneCell']) rfl rfl rfl rfl rfl rfl (fun Y hY=>trivial) ?_
     intro w13 Sr KZ
     have pM:=Pl.Ex.xs (Pl.Ex.trans uj (Pl.Ex.trans mX pK)) Sr (by omega)
     have Rj:=Pl.Xs.size Sr
     have K3:=Pl.Cb.xs (Pl.Cb.ex kNq pK) Sr (by simp;omega)
     refine Pl.aH ?_
     repeat refine Pl.aG ?_
     refine Pl.aB (by kernel_rfl) ?_
     refine Pl.jA (part:=[.bool (decide ((-(n/((g:Nat):Int)))<0)),.slice Am (limbs (Int.natAbs (-(n/((g:Nat):Int))))).length cm]) KZ rfl Tryz.underlying34 rfl (by kernel_rfl) trivial rfl rfl rfl rfl rfl ?_
     refine Pl.mo (.pointer (some ⟨Nq,1,none⟩)) trivial rfl rfl rfl rfl (fun X=>by kernel_rfl) ?_
     refine Pl.rQ (v:=.slice Aq (limbs (Int.natAbs (((Int.natAbs d:Nat):Int)/((g:Nat):Int)))).length cq) Tryz.underlying24 rfl (Pl.Cb.at (j:=1) K3 rfl) trivial rfl rfl rfl rfl rfl ?_
     refine Pl.mo (.agg #[.bool (decide ((-(n/((g:Nat):Int)))<0)),.slice Am (limbs (Int.natAbs (-(n/((g:Nat):Int))))).length cm,.slice Aq (limbs (Int.natAbs (((Int.natAbs d:Nat):Int)/((g:Nat):Int)))).length cq]) trivial rfl rfl rfl rfl (fun X=>by kernel_rfl) ?_
     refine Pl.lI (new:=[.bool (decide ((-(n/((g:Nat):Int)))<0)),.slice Am (limbs (Int.natAbs (-(n/((g:Nat):Int))))).length cm,.slice Aq (limbs (Int.natAbs (((Int.natAbs d:Nat):Int)/((g:Nat):Int)))).length cq]) (Pl.Cb.ex eF (Pl.Ex.trans kM (Pl.Ex.trans nC (Pl.Ex.trans pg (Pl.Ex.trans EG pM))))) (by kernel_rfl) rfl (by simp [Value.oneCell']) rfl rfl rfl rfl rfl rfl (fun Y hY=>trivial) ?_
     intro w14 K4 mV
     have uk:=Pl.Ex.xs (Pl.Ex.trans gF (Pl.Ex.trans kM (Pl.Ex.trans nC (Pl.Ex.trans pg (Pl.Ex.trans EG pM))))) K4 (by omega)
     have Zq:=Pl.Xs.size K4
     have Zr:=Pl.Cb.xs (Pl.Cb.ex Gd (Pl.Ex.trans EG pM)) K4 (by simp;omega)
     have afl:=Pl.Cb.xs KZ K4 (by simp;omega)
     have afm:=Pl.Cb.xs K3 K4 (by simp;omega)
     refine Pl.jB trivial rfl ?_
     refine Pl.aH ?_
     have k12:=Un.xs um Sr (Pl.Cb.ex zB (Pl.Ex.trans mX pK)) (by simp)
     have k13:=Un.xs k12 K4 (Pl.Cb.ex eF (Pl.Ex.trans kM (Pl.Ex.trans nC (Pl.Ex.trans pg (Pl.Ex.trans EG pM))))) (by simp)
     have k14:=Un.xs (Un.below uq pK) Sr (Pl.Cb.ex zB (Pl.Ex.trans mX pK)) (by simp)
     have k15:=Un.xs k14 K4 (Pl.Cb.ex eF (Pl.Ex.trans kM (Pl.Ex.trans nC (Pl.Ex.trans pg (Pl.Ex.trans EG pM))))) (by simp)
     repeat refine Pl.aG ?_
     exact Pl.C9 rfl rfl rfl mV Tryz.underlying36 rfl (by kernel_rfl) (⟨_,rfl,Qn.of (Sq hd0 hgg hneg).1 (Sq hd0 hgg hneg).2 k13 k15 (Sz.neg (Sz.div ln)) (Sn.Ic (Sz.div (Sn.sz (Sz.sn ld)))),(Pl.Ex.trans hE1 (Pl.Ex.trans hE2 uk))⟩)
   · have hneg:=c11
     refine Pl.rQ (v:=.bool false) Tryz.underlying4 rfl ((by have h9:=(Pl.Cb.at (j:=0) (Pl.Cb.ex eO (Pl.Ex.trans gF (Pl.Ex.trans kM (Pl.Ex.trans nC (Pl.Ex.trans pg (Pl.Ex.trans EG (Pl.Ex.trans uj mX))))))) rfl);rw [decide_eq_false hneg] at h9;exact h9)) trivial rfl rfl rfl rfl rfl ?_
     refine Pl.aH ?_
     repeat refine Pl.aG ?_
     refine Pl.gX rfl ?_
     repeat refine Pl.aG ?_
     refine Pl.iT ?_
     repeat refine Pl.aG ?_
     refine Pl.aB (by kernel_rfl) ?_
     refine Pl.jA (part:=[.bool (decide ((n/((g:Nat):Int))<0)),.slice Ap (limbs (Int.natAbs (n/((g:Nat):Int)))).length cp]) (Pl.Cb.ex zB mX) rfl Tryz.underlying34 rfl (by kernel_rfl) trivial rfl rfl rfl rfl rfl ?_
     refine Pl.mo (.pointer (some ⟨Nq,1,none⟩)) trivial rfl rfl rfl rfl (fun X=>by kernel_rfl) ?_
     refine Pl.rQ (v:=.slice Aq (limbs (Int.natAbs (((Int.natAbs d:Nat):Int)/((g:Nat):Int)))).length cq) Tryz.underlying24 rfl (Pl.Cb.at (j:=1) kNq rfl) trivial rfl rfl rfl rfl rfl ?_
     refine Pl.mo (.agg #[.bool (decide ((n/((g:Nat):Int))<0)),.slice Ap (limbs (Int.natAbs (n/((g:Nat):Int)))).length cp,.slice Aq (limbs (Int.natAbs (((Int.natAbs d:Nat):Int)/((g:Nat):Int)))).length cq]) trivial rfl rfl rfl rfl (fun X=>by kernel_rfl) ?_
     refine Pl.lI (new:=[.bool (decide ((n/((g:Nat):Int))<0)),.slice Ap (limbs (Int.natAbs (n/((g:Nat):Int)))).length cp,.slice Aq (limbs (Int.natAbs (((Int.natAbs d:Nat):Int)/((g:Nat):Int)))).length cq]) (Pl.Cb.ex eF (Pl.Ex.trans kM (Pl.Ex.trans nC (Pl.Ex.trans pg (Pl.Ex.trans EG (Pl.Ex.trans uj mX)))))) (by kernel_rfl) rfl (by simp [Value.oneCell']) rfl rfl rfl rfl rfl rfl (fun Y hY=>trivial) ?_
     intro w12 K5 mV
     have pK:=Pl.Ex.xs (Pl.Ex.trans gF (Pl.Ex.trans kM (Pl.Ex.trans nC (Pl.Ex.trans pg (Pl.Ex.trans EG (Pl.Ex.trans uj mX)))))) K5 (by omega)
     have Ri:=Pl.Xs.size K5
     have Zr:=Pl.Cb.xs (Pl.Cb.ex Gd (Pl.Ex.trans EG (Pl.Ex.trans uj mX))) K5 (by simp;omega)
     have KZ:=Pl.Cb.xs (Pl.Cb.ex zB mX) K5 (by simp;omega)
     have K3:=Pl.Cb.xs kNq K5 (by simp;omega)
     refine Pl.jB trivial rfl ?_
     refine Pl.aH ?_
     have k12:=Un.xs (Un.below up (Pl.Ex.trans uj mX)) K5 (Pl.Cb.ex eF (Pl.Ex.trans kM (Pl.Ex.trans nC (Pl.Ex.trans pg (Pl.Ex.trans EG (Pl.Ex.trans uj mX)))))) (by simp)
     have k13:=Un.xs uq K5 (Pl.Cb.ex eF (Pl.Ex.trans kM (Pl.Ex.trans nC (Pl.Ex.trans pg (Pl.Ex.trans EG (Pl.Ex.trans uj mX)))))) (by simp)
     repeat refine Pl.aG ?_
     exact Pl.C9 rfl rfl rfl mV Tryz.underlying36 rfl (by kernel_rfl) (⟨_,rfl,Qn.of (mk_pos hd0 hgg hneg).1 (mk_pos hd0 hgg hneg).2 k12 k13 (Sz.div ln) (Sn.Ic (Sz.div (Sn.sz (Sz.sn ld)))),(Pl.Ex.trans hE1 (Pl.Ex.trans hE2 pK))⟩)
 · repeat refine Pl.aG ?_
   refine Pl.FZ (S:=fun X=>Pl.Ex w10 X) fo (Pl.Ex.trans (Pl.Ex.refl _) (Pl.Ex.drew _)) ?_
   have mX:=Pl.Ex.drew w10
   generalize w10.drew=w11 at *
   have YS:=Pl.Ex.size mX
   intro OY
   refine Pl.F3 [(true,0,0),(true,1,1),(true,3,3)] 11 8 Pl.gQ (by kernel_rfl) (by kernel_rfl) (by kernel_rfl) ?_
   refine Pl.mo (.pointer (some ⟨N2,1,none⟩)) OY rfl rfl rfl rfl (fun X=>by kernel_rfl) ?_
   refine Pl.WL (v:=.slice Ad (limbs (Int.natAbs d)).length cd) Tryz.underlying24 rfl (fun X hX=>Pl.Cb.at (j:=1) (Pl.Cb.ex (Pl.Cb.ex eO (Pl.Ex.trans gF (Pl.Ex.trans kM (Pl.Ex.trans nC (Pl.Ex.trans pg (Pl.Ex.trans EG uj)))))) hX) rfl) OY rfl rfl rfl rfl rfl ?_
   refine Pl.Q8 (part:=[.bool (decide (((g:Nat):Int)<0)),.slice A5 (limbs (Int.natAbs ((g:Nat):Int))).length c6]) (fun X hX=>Pl.Cb.ex (Pl.Cb.ex Gd (Pl.Ex.trans EG uj)) hX) rfl Tryz.underlying34 rfl (by kernel_rfl) OY rfl rfl rfl rfl rfl ?_
   refine Pl.aH ?_
   refine Pl.Xg [2,8] 7 (by kernel_rfl) (by kernel_rfl) (by kernel_rfl) (Pl.uR ?_ (Pl.uR ?_ Pl.Jb))
   · refine Pl.bX rfl rfl rfl rfl rfl (Pl.en Tryz.func68) ?_
     refine Calls.mono (fA _ _ (Int.natAbs d) (Un.below ud (Pl.Ex.trans hE1 (Pl.Ex.trans hE2 (Pl.Ex.trans gF (Pl.Ex.trans kM (Pl.Ex.trans nC (Pl.Ex.trans pg (Pl.Ex.trans EG (Pl.Ex.trans uj mX)))))))))) ?_
     rintro e w12 ⟨v11,rfl,afn,pK⟩
     obtain ⟨A12,c13,rfl,u14⟩:=afn
     have Ri:=Pl.Ex.size pK
     have OZ:=Pl.Ex.trans OY pK
     refine ⟨_,rfl,OZ,?_⟩
     refine Pl.aH ?_
     refine Pl.Xg [4,8] 6 (by kernel_rfl) (by kernel_rfl) (by kernel_rfl) (Pl.uR ?_ (Pl.uR ?_ Pl.Jb))
     · refine Pl.bX rfl rfl rfl rfl rfl (Pl.en Tryz.func106) ?_
       refine Calls.mono (pW _ _ _ ((Int.natAbs d:Nat):Int) ((g:Nat):Int) (Zn.of u14) (Zn.of (Un.below u7 (Pl.Ex.trans pg (Pl.Ex.trans EG (Pl.Ex.trans uj (Pl.Ex.trans mX pK)))))) (Sz.le (Sn.sz (Sz.sn ld)) (by omega)) (Sz.le (Sn.sz lg) (by decide)) (by omega) dd _ rfl) ?_
       rintro e w13 ⟨vq,rfl,vO,pM⟩
       obtain ⟨Aq,cq,rfl,uq⟩:=vO
       have Rj:=Pl.Ex.size pM
       have Gg:=Pl.Ex.trans OZ pM
       refine ⟨_,rfl,Gg,?_⟩
       refine Pl.aH ?_
       refine Pl.F3 [(true,5,31),(true,6,63),(true,7,127),(false,8,255),(false,9,511),(true,10,1023)] 2047 0 Pl.gQ (by kernel_rfl) (by kernel_rfl) (by kernel_rfl) ?_
       refine Pl.jB Gg rfl ?_
       refine Pl.mI (z:=.agg #[.bool false,.slice none 0 0]) (by kernel_rfl) rfl rfl rfl rfl (fun Y hY=>Pl.Ex.trans Gg hY) ?_
       intro Zt w14 uk Zu nH
       have acK:=Pl.Cb.lt nH
       have Zq:=Pl.Ex.size uk
       replace nH:Pl.Cb w14 Zt 34 [.bool false,.slice none 0 0]:=nH
       have AY:=Pl.Ex.trans Gg uk
       refine Pl.lI (new:=[.bool (decide ((((Int.natAbs d:Nat):Int)/((g:Nat):Int))<0)),.slice Aq (limbs (Int.natAbs (((Int.natAbs d:Nat):Int)/((g:Nat):Int)))).length cq]) nH (by kernel_rfl) rfl (by simp [Value.oneCell']) rfl rfl rfl rfl rfl rfl (fun Y hY=>Pl.Ex.xs AY hY (by omega)) ?_
       intro w15 zC Gi
       have O0:=Pl.Ex.xs uk zC (by omega)
       have acL:=Pl.Xs.size zC
       have Su:=Pl.Ex.xs AY zC (by omega)
       refine Pl.jB Su rfl ?_
       refine Pl.aH ?_
       refine Pl.G_V (by kernel_rfl) ?_
       refine Pl.lM [(2,.pointer (some ⟨N1,0,none⟩)),(3,.pointer (some ⟨N2,0,none⟩)),(4,.pointer (some ⟨N3,0,none⟩)),(5,.int .i64 0),(6,.pointer (some ⟨N8,0,none⟩)),(7,.pointer (some ⟨N9,0,none⟩)),(8,.bool true),(9,.pointer (some ⟨Zt,0,none⟩)),(10,.bool true)] (Pl.aj rfl (Pl.aj rfl (Pl.aj rfl (Pl.aj rfl (Pl.aj rfl (Pl.aj rfl (Pl.aj rfl (Pl.aj rfl (Pl.aj rfl Pl.dQ))))))))) ?_
       exact KY _ _ ⟨Zt,Aq,cq,(Pl.Ex.trans mX (Pl.Ex.trans pK (Pl.Ex.trans pM O0))),Gi,(by omega),(Un.below uq O0),rfl⟩
     · refine Pl.mI (z:=.agg #[.bool false,.slice none 0 0]) (by kernel_rfl) rfl rfl rfl rfl (fun Y hY=>Pl.Ex.trans OZ hY) ?_
       intro Zt w13 pM Zu nH
       have acK:=Pl.Cb.lt nH
       have Rj:=Pl.Ex.size pM
       replace nH:Pl.Cb w13 Zt 34 [.bool false,.slice none 0 0]:=nH
       have Gg:=Pl.Ex.trans OZ pM
       refine Pl.aH ?_
       refine Pl.F3 [(false,4,271),(true,5,287),(true,6,319),(true,7,383),(false,9,511),(true,10,1023)] 2047 0 Pl.gQ (by kernel_rfl) (by kernel_rfl) (by kernel_rfl) ?_
       refine Pl.bX rfl rfl rfl rfl rfl (Pl.en Tryz.func106) ?_
       refine Calls.mono (pW _ _ _ ((Int.natAbs d:Nat):Int) ((g:Nat):Int) (Zn.of (Un.below u14 pM)) (Zn.of (Un.below u7 (Pl.Ex.trans pg (Pl.Ex.trans EG (Pl.Ex.trans uj (Pl.Ex.trans mX (Pl.Ex.trans pK pM))))))) (Sz.le (Sn.sz (Sz.sn ld)) (by omega)) (Sz.le (Sn.sz lg) (by decide)) (by omega) dd _ rfl) ?_
       rintro e w14 ⟨vq,rfl,vO,uk⟩
       obtain ⟨Aq,cq,rfl,uq⟩:=vO
       have Zq:=Pl.Ex.size uk
       have AY:=Pl.Ex.trans Gg uk
       refine ⟨_,rfl,AY,?_⟩
       refine Pl.jB AY rfl ?_
       refine Pl.lI (new:=[.bool (decide ((((Int.natAbs d:Nat):Int)/((g:Nat):Int))<0)),.slice Aq (limbs (Int.natAbs (((Int.natAbs d:Nat):Int)/((g:Nat):Int)))).length cq]) (Pl.Cb.ex nH uk) (by kernel_rfl) rfl (by simp [Value.oneCell']) rfl rfl rfl rfl rfl rfl (fun Y hY=>Pl.Ex.xs AY hY (by omega)) ?_
       intro w15 zC Gi
       have O0:=Pl.Ex.xs (Pl.Ex.trans pM uk) zC (by omega)
       have acL:=Pl.Xs.size zC
       have Su:=Pl.Ex.xs AY zC (by omega)
       refine Pl.jB Su rfl ?_
       refine Pl.aH ?_
       refine Pl.G_V (by kernel_rfl) ?_
       refine Pl.lM [(2,.pointer (some ⟨N1,0,none⟩)),(3,.pointer (some ⟨N2,0,none⟩)),(4,.pointer (some ⟨N3,0,none⟩)),(5,.int .i64 0),(6,.pointer (some ⟨N8,0,none⟩)),(7,.pointer (some ⟨N9,0,none⟩)),(8,.bool true),(9,.pointer (some ⟨Zt,0,none⟩)),(10,.bool true)] (Pl.aj rfl (Pl.aj rfl (Pl.aj rfl (Pl.aj rfl (Pl.aj rfl (Pl.aj rfl (Pl.aj rfl (Pl.aj rfl (Pl.aj rfl Pl.dQ))))))))) ?_
       have k16:=Un.xs uq zC (Pl.Cb.ex nH uk) (by simp)
       exact KY _ _ ⟨Zt,Aq,cq,(Pl.Ex.trans mX (Pl.Ex.trans pK O0)),Gi,(by omega),k16,rfl⟩
   · refine Pl.mI (z:=.agg #[.bool false,.slice none 0 0]) (by kernel_rfl) rfl rfl rfl rfl (fun Y hY=>Pl.Ex.trans OY hY) ?_
     intro N11 w12 pK afp yz
     have ahq:=Pl.Cb.lt yz
     have Ri:=Pl.Ex.size pK
     replace yz:Pl.Cb w12 N11 34 [.bool false,.slice none 0 0]:=yz
     have OZ:=Pl.Ex.trans OY pK
     refine Pl.aH ?_
     refine Pl.F3 [(false,2,267),(false,4,271),(true,5,287),(true,6,319),(true,7,383),(false,9,511),(true,10,1023)] 2047 0 Pl.gQ (by kernel_rfl) (by kernel_rfl) (by kernel_rfl) ?_
     refine Pl.bX rfl rfl rfl rfl rfl (Pl.en Tryz.func68) ?_
     refine Calls.mono (fA _ _ (Int.natAbs d) (Un.below ud (Pl.Ex.trans hE1 (Pl.Ex.trans hE2 (Pl.Ex.trans gF (Pl.Ex.trans kM (Pl.Ex.trans nC (Pl.Ex.trans pg (Pl.Ex.trans EG (Pl.Ex.trans uj (Pl.Ex.trans mX pK))))))))))) ?_
     rintro e w13 ⟨v12,rfl,afq,pM⟩
     obtain ⟨A13,c14,rfl,u15⟩:=afq
     have Rj:=Pl.Ex.size pM
     have Gg:=Pl.Ex.trans OZ pM
     refine ⟨_,rfl,Gg,?_⟩
     refine Pl.bX rfl rfl rfl rfl rfl (Pl.en Tryz.func106) ?_
     refine Calls.mono (pW _ _ _ ((Int.natAbs d:Nat):Int) ((g:Nat):Int) (Zn.of u15) (Zn.of (Un.below u7 (Pl.Ex.trans pg (Pl.Ex.trans EG (Pl.Ex.trans uj (Pl.Ex.trans mX (Pl.Ex.trans pK pM))))))) (Sz.le (Sn.sz (Sz.sn ld)) (by omega)) (Sz.le (Sn.sz lg) (by decide)) (by omega) dd _ rfl) ?_
     rintro e w14 ⟨vq,rfl,vO,uk⟩
     obtain ⟨Aq,cq,rfl,uq⟩:=vO
     have Zq:=Pl.Ex.size uk
     have AY:=Pl.Ex.trans Gg uk
     refine ⟨_,rfl,AY,?_⟩
     refine Pl.jB AY rfl ?_
     refine Pl.lI (new:=[.bool (decide ((((Int.natAbs d:Nat):Int)/((g:Nat):Int))<0)),.slice Aq (limbs (Int.natAbs (((Int.natAbs d:Nat):Int)/((g:Nat):Int)))).length cq]) (Pl.Cb.ex yz (Pl.Ex.trans pM uk)) (by kernel_rfl) rfl (by simp [Value.oneCell']) rfl rfl rfl rfl rfl rfl (fun Y hY=>Pl.Ex.xs AY hY (by omega)) ?_
     intro w15 zC VG
     have O0:=Pl.Ex.xs (Pl.Ex.trans pK (Pl.Ex.trans pM uk)) zC (by omega)
     have acL:=Pl.Xs.size zC
     have Su:=Pl.Ex.xs AY zC (by omega)
     refine Pl.jB Su rfl ?_
     refine Pl.aH ?_
     refine Pl.G_V (by kernel_rfl) ?_
     refine Pl.lM [(2,.pointer (some ⟨N1,0,none⟩)),(3,.pointer (some ⟨N2,0,none⟩)),(4,.pointer (some ⟨N3,0,none⟩)),(5,.int .i64 0),(6,.pointer (some ⟨N8,0,none⟩)),(7,.pointer (some ⟨N9,0,none⟩)),(8,.bool true),(9,.pointer (some ⟨N11,0,none⟩)),(10,.bool true)] (Pl.aj rfl (Pl.aj rfl (Pl.aj rfl (Pl.aj rfl (Pl.aj rfl (Pl.aj rfl (Pl.aj rfl (Pl.aj rfl (Pl.aj rfl Pl.dQ))))))))) ?_
     have k16:=Un.xs uq zC (Pl.Cb.ex yz (Pl.Ex.trans pM uk)) (by simp)
     exact KY _ _ ⟨N11,Aq,cq,(Pl.Ex.trans mX O0),VG,(by omega),k16,rfl⟩
end Go.Proofs.YtgcieamfidoaoaaGreatDoor
/- Rationals: sums, products, order, floors. -/
namespace Go.Proofs.YtgcieamfidoaoaaGreatDoor
open Go.RowKit Rf
set_option maxRecDepth 100000
theorem Qn.le {w:World} {v:Value} {q:Rat} {L M K N:Nat} (h:Qn w v q L M) (h1:L≤K) (h2:M≤N):Qn w v q K N:=by
 obtain ⟨A,c,A2,c2,e,u,u2,z,y⟩:=h
 exact ⟨A,c,A2,c2,e,u,u2,z.le h1,y.le h2⟩
theorem VH {p q:Rat} (h1:p.num=q.num) (h2:p.den=q.den):p=q:=Rat.ext h1 h2
theorem Im (w:World) (va vb:Value) (p q:Rat) (L M L2 M2:Nat) (ha:Qn w va p L M) (hb:Qn w vb q L2 M2) (hL:L≤1000000) (hM:M≤1000000) (hL2:L2≤1000000) (hM2:M2≤1000000) :
  Calls Tryz.prog 20 #[va,vb] w fun e w'=>e = .returned (.bool (decide (p=q)))∧Pl.Ex w w':=by
 obtain ⟨Aa,ca,Ba,ba,rfl,ua,ta,za,ya⟩:=ha
 obtain ⟨Ab,cb,Bb,bb,rfl,ub,tb,zb,yb⟩:=hb
 refine Pl.dF (n:=18) (vs:=[.agg #[.bool (decide ((Rat.num p)<0)),.slice Aa (limbs (Int.natAbs (Rat.num p))).length ca,.slice Ba (limbs (Rat.den p)).length ba],.agg #[.bool (decide ((Rat.num q)<0)),.slice Ab (limbs (Int.natAbs (Rat.num q))).length cb,.slice Bb (limbs (Rat.den q)).length bb]]) Tryz.func20 rfl (by kernel_rfl) (by simp) ?_
 repeat refine Pl.aG ?_
 refine Pl.aB (by kernel_rfl) ?_
 refine Pl.oW (cs:=[.bool (decide ((Rat.num p)<0)),.slice Aa (limbs (Int.natAbs (Rat.num p))).length ca,.slice Ba (limbs (Rat.den p)).length ba]) rfl rfl rfl rfl rfl rfl (fun Y hY=>trivial) ?_
 intro N1 w1 hE1 vM eX
 have DT:=Pl.Cb.lt eX
 have Tx:=Pl.Ex.size hE1
 refine Pl.oW (cs:=[.bool (decide ((Rat.num q)<0)),.slice Ab (limbs (Int.natAbs (Rat.num q))).length cb,.slice Bb (limbs (Rat.den q)).length bb]) rfl rfl rfl rfl rfl rfl (fun Y hY=>trivial) ?_
 intro N2 w2 hE2 zV eO
 have Iw:=Pl.Cb.lt eO
 have UO:=Pl.Ex.size hE2
 refine Pl.jB trivial rfl ?_
 refine Pl.aH ?_
 repeat refine Pl.aG ?_
 refine Pl.aB (by kernel_rfl) ?_
 refine Pl.mo (.pointer (some ⟨N1,0,none⟩)) trivial rfl rfl rfl rfl (fun X=>by kernel_rfl) ?_
 refine Pl.jA (part:=[.bool (decide ((Rat.num p)<0)),.slice Aa (limbs (Int.natAbs (Rat.num p))).length ca]) (Pl.Cb.ex eX hE2) rfl Tryz.underlying34 rfl (by kernel_rfl) trivial rfl rfl rfl rfl rfl ?_
 refine Pl.mo (.pointer (some ⟨N2,0,none⟩)) trivial rfl rfl rfl rfl (fun X=>by kernel_rfl) ?_
 refine Pl.jA (part:=[.bool (decide ((Rat.num q)<0)),.slice Ab (limbs (Int.natAbs (Rat.num q))).length cb]) eO rfl Tryz.underlying34 rfl (by kernel_rfl) trivial rfl rfl rfl rfl rfl ?_
 by_cases c3:(Rat.num p)=(Rat.num q)
 · refine Pl.bX rfl rfl rfl rfl rfl (Pl.en Tryz.func56) ?_
   refine Calls.mono (Rz _ _ _ (Rat.num p) (Rat.num q) (Zn.of (Un.below ua (Pl.Ex.trans hE1 hE2))) (Zn.of (Un.below ub (Pl.Ex.trans hE1 hE2))) (Sz.le za (by omega)) (Sz.le zb (by omega)) true (decide_eq_true c3)) ?_
   rintro e w3 ⟨rfl,gF⟩
   have UQ:=Pl.Ex.size gF
   refine ⟨_,rfl,trivial,?_⟩
   refine Pl.jB trivial rfl ?_
   refine Pl.mo (.pointer (some ⟨N1,2,none⟩)) trivial rfl rfl rfl rfl (fun X=>by kernel_rfl) ?_
   refine Pl.rQ (v:=.slice Ba (limbs (Rat.den p)).length ba) Tryz.underlying24 rfl (Pl.Cb.at (j:=2) (Pl.Cb.ex eX (Pl.Ex.trans hE2 gF)) rfl) trivial rfl rfl rfl rfl rfl ?_
   refine Pl.mo (.pointer (some ⟨N2,2,none⟩)) trivial rfl rfl rfl rfl (fun X=>by kernel_rfl) ?_
   refine Pl.rQ (v:=.slice Bb (limbs (Rat.den q)).length bb) Tryz.underlying24 rfl (Pl.Cb.at (j:=2) (Pl.Cb.ex eO gF) rfl) trivial rfl rfl rfl rfl rfl ?_
   refine Pl.bX rfl rfl rfl rfl rfl (Pl.en Tryz.func47) ?_
   refine Calls.mono (jk _ _ _ (Rat.den p) (Rat.den q) (Un.below ta (Pl.Ex.trans hE1 (Pl.Ex.trans hE2 gF))) (Un.below tb (Pl.Ex.trans hE1 (Pl.Ex.trans hE2 gF))) (Sn.le ya (by omega)) (Sn.le yb (by omega)) _ rfl) ?_
   rintro e w4 ⟨rfl,kM⟩
   have WC:=Pl.Ex.size kM
   refine ⟨_,rfl,trivial,?_⟩
   by_cases c4:(Rat.den p)=(Rat.den q)
   · refine Pl.Vl (v:=.bool true) (fun X=>Cm.Rn c4 X) trivial rfl rfl rfl rfl rfl rfl ?_
     refine Pl.jB trivial rfl ?_
     refine Pl.aH ?_
     repeat refine Pl.aG ?_
     exact Pl.iV rfl rfl  (⟨by rw [decide_eq_true (VH c3 c4)],(Pl.Ex.trans hE1 (Pl.Ex.trans hE2 (Pl.Ex.trans gF kM)))⟩)
   · refine Pl.Vl (v:=.bool false) (fun X=>Cm.Ro c4 X) trivial rfl rfl rfl rfl rfl rfl ?_
     refine Pl.jB trivial rfl ?_
     refine Pl.aH ?_
     repeat refine Pl.aG ?_
     exact Pl.iV rfl rfl  (⟨by rw [decide_eq_false (fun h9=>c4 (by rw [h9]))],(Pl.Ex.trans hE1 (Pl.Ex.trans hE2 (Pl.Ex.trans gF kM)))⟩)
 · refine Pl.bX rfl rfl rfl rfl rfl (Pl.en Tryz.func56) ?_
   refine Calls.mono (Rz _ _ _ (Rat.num p) (Rat.num q) (Zn.of (Un.below ua (Pl.Ex.trans hE1 hE2))) (Zn.of (Un.below ub (Pl.Ex.trans hE1 hE2))) (Sz.le za (by omega)) (Sz.le zb (by omega)) false (decide_eq_false c3)) ?_
   rintro e w3 ⟨rfl,gF⟩
   have UQ:=Pl.Ex.size gF
   refine ⟨_,rfl,trivial,?_⟩
   refine Pl.jB trivial rfl ?_
   refine Pl.aH ?_
   repeat refine Pl.aG ?_
   exact Pl.iV rfl rfl  (⟨by rw [decide_eq_false (fun h9=>c3 (by rw [h9]))],(Pl.Ex.trans hE1 (Pl.Ex.trans hE2 gF))⟩)
end Go.Proofs.YtgcieamfidoaoaaGreatDoor
/- Floats as facts of walks; formats; how long powers are. -/
namespace Go.Proofs.YtgcieamfidoaoaaGreatDoor
open Go Go.RowKit Fm
set_option maxRecDepth 100000
def Fv (w:World) (v:Value) (x:Fl):Prop:=∃ A c,v = .agg #[.int .i64 (kd x),.bool (ng x),.slice A (limbs (mn x)).length c,.int .i64 (xp x)]∧Un w (.slice A (limbs (mn x)).length c) (mn x)
theorem Fv.mk {w:World} {s:Value} {x:Fl} (u:Un w s (mn x)):Fv w (.agg #[.int .i64 (kd x),.bool (ng x),s,.int .i64 (xp x)]) x:=by
 obtain ⟨A,c,rfl⟩:=Un.jX u
 exact ⟨A,c,rfl,u⟩
theorem iA (w:World):Un w (.slice none 0 0) 0:=by
 show U w _ (limbs 0)
 rw [aX];exact U.yX w none 0
structure fT (b p:Nat) (lo hi:Int):Prop where
 r:b=2∨b=10
 p1:1≤p
 ku:p≤17
 l:lo≤hi
 l1 : -100≤lo
 h1:hi≤300
theorem fT.b2 {b p:Nat} {lo hi:Int} (h:fT b p lo hi):2≤b:=by rcases h.r with h | h<;>omega
theorem J4 {b:Nat} (hb:b=2∨b=10) (k:Nat):b^k≤16^k:=Nat.pow_le_pow_left (by omega) k
theorem bK {b k K:Nat} (hb:b=2∨b=10) (h:k<8*K):Sn (b^k) K:=by
 refine Sn.of (Nat.lt_of_le_of_lt (J4 hb k) ?_)
 rw [show (4294967296:Nat)=16^8 by decide,← Nat.pow_mul]
 exact Nat.pow_lt_pow_right (by decide) h
theorem aaE {b p:Nat} {lo hi:Int} (hf:fT b p lo hi) {x:Fl} (h:bO b p lo hi x):Sn (mn x) 3:=by
 cases x with
 | fin n m e =>
  have h1:=h.1.2.2.1
  have h0:=h.1.2.1
  refine Sn.of ?_
  show m.natAbs<_
  have h2:b^p≤16^17:=Nat.le_trans (J4 hf.r p) (Nat.pow_le_pow_right (by decide) hf.ku)
  have h3:(16:Nat)^17<4294967296^3:=by decide
  omega
 | zero n=>exact Sn.zero
 | inf n=>exact Sn.zero
theorem aaF {w:World} {a b c:Value} {q:Rat} {n:Int} {m L M:Nat} (hz:Zn w (.agg #[a,b]) n) (hd:Un w c m) (h1:q.num=n) (h2:q.den=m) (z:Sz n L) (y:Sn m M):Qn w (.agg #[a,b,c]) q L M:=by
 subst h1 h2
 obtain ⟨A,k,e,u⟩:=hz
 obtain ⟨B,j,rfl⟩:=Un.jX hd
 have e2:=Array.mk.inj (Value.agg.inj e)
 simp only [List.cons.injEq,and_true] at e2
 rw [e2.1,e2.2]
 exact ⟨A,k,B,j,rfl,u,hd,z,y⟩
end Go.Proofs.YtgcieamfidoaoaaGreatDoor
namespace Go.Proofs.YtgcieamfidoaoaaGreatDoor.Rf
open Go Go.RowKit Go.Proofs.YtgcieamfidoaoaaGreatDoor.Pl Fm
set_option maxRecDepth 100000
section
variable {P:Program} {f:FuncId} {args:Array Value} {w:World} {α:Env} {γ:kR}
theorem fC {x:Fl} (g:Nat) (h:Calls P f args w (fun e w'=>∃ u,e = .returned u∧Fv w' u x∧Ex w w')) :
  Calls P f args w (fun e w'=>∃ F,(∀ k,bG (F k)=true)∧e = .returned (den α (upd γ g F) (.a [vI (kd x),vB (ng x),.c g 0,vI (xp x)]))∧(dW (mn x)).R w' F∧Ex w w'):=Calls.mono h fun e w' ⟨u,he,⟨A,c,hu,hU⟩,hE⟩=>by
 subst hu he
 refine ⟨wo [.slice A (limbs (mn x)).length c],eG rfl,?_,hU,hE⟩
 simp only [den,bZ,upd_same];rfl
theorem dP {x:Fl} (g:Nat) (h:Calls P f args w (fun e w'=>∃ u,e = .returned (.tuple #[u,.int .i64 0])∧Fv w' u x∧Ex w w')) :
  Calls P f args w (fun e w'=>∃ F,(∀ k,bG (F k)=true)∧e = .returned (den α (upd γ g F) (.t [.a [vI (kd x),vB (ng x),.c g 0,vI (xp x)],vI 0]))∧(dW (mn x)).R w' F∧Ex w w'):=Calls.mono h fun e w' ⟨u,he,⟨A,c,hu,hU⟩,hE⟩=>by
 subst hu he
 refine ⟨wo [.slice A (limbs (mn x)).length c],eG rfl,?_,hU,hE⟩
 simp only [den,bZ,upd_same];rfl
theorem nJ {q:Rat} {L M:Nat} {y:Value} (g:Nat) (h:Calls P f args w (fun e w'=>∃ u,e = .returned (.tuple #[u,y])∧Qn w' u q L M∧Ex w w')) :
  Calls P f args w (fun e w'=>∃ F,(∀ k,bG (F k)=true)∧e = .returned (den α (upd γ g F) (.t [.a [.c g 0,.c g 1,.c g 2],.v y]))∧(pI q L M).R w' F∧Ex w w'):=Calls.mono h fun e w' ⟨u,he,⟨A,c,B,b,hu,hU,hT,hz,hy⟩,hE⟩=>by
 subst hu he
 refine ⟨wo [.bool (decide (q.num<0)),.slice A (limbs q.num.natAbs).length c,.slice B (limbs q.den).length b],eG rfl,?_,⟨A,c,B,b,rfl,hU,hT,hz,hy⟩,hE⟩
 simp only [den,bZ,upd_same];rfl
def Z2R (z z':Int):RS:=⟨fun w f=>Zn w (.agg #[f 0,f 1]) z∧Zn w (.agg #[f 2,f 3]) z',fun ⟨⟨A,c,e,u⟩,⟨B,b,e',u'⟩⟩ hs hk=>⟨⟨A,c,e,jd u hs hk⟩,⟨B,b,e',jd u' hs hk⟩⟩⟩
theorem Wt {z z':Int} (g:Nat) (h:Calls P f args w fun e w'=>(∃ u v,e = .returned (.tuple #[u,v,.int .i64 0])∧Zn w' u z∧Zn w' v z')∧Ex w w') :
  Calls P f args w (fun e w'=>∃ F,(∀ k,bG (F k)=true)∧e = .returned (den α (upd γ g F) (.t [.a [.c g 0,.c g 1],.a [.c g 2,.c g 3],vI 0]))∧(Z2R z z').R w' F∧Ex w w'):=Calls.mono h fun e w' ⟨⟨u,v,he,⟨A,c,hu,hU⟩,⟨B,b,hv,hV⟩⟩,hE⟩=>by
 subst hu hv he
 refine ⟨wo [.bool (decide (z<0)),.slice A (limbs z.natAbs).length c,.bool (decide (z'<0)),.slice B (limbs z'.natAbs).length b],eG rfl,?_,⟨⟨A,c,rfl,hU⟩,⟨B,b,rfl,hV⟩⟩,hE⟩
 simp only [den,bZ,upd_same];rfl
theorem iE {w:World} {x y:Value} {z:Int} (h:Zn w (.agg #[x,y]) z):Un w y z.natAbs:=by
 obtain ⟨A,c,e,u⟩:=h
 have e2:=Array.mk.inj (Value.agg.inj e)
 simp only [List.cons.injEq,and_true] at e2
 rw [e2.2];exact u
theorem PZ {m:Nat} {y:Value} (g:Nat) (h:Calls P f args w (fun e w'=>∃ u,e = .returned (.tuple #[u,y])∧Un w' u m∧Ex w w')) :
  Calls P f args w (fun e w'=>∃ F,(∀ k,bG (F k)=true)∧e = .returned (den α (upd γ g F) (.t [.c g 0,.v y]))∧(dW m).R w' F∧Ex w w'):=Calls.mono h fun e w' ⟨u,he,hU,hE⟩=>by
 obtain ⟨A,c,hu⟩:=Un.jX hU
 subst hu he
 refine ⟨wo [.slice A (limbs m).length c],eG rfl,?_,hU,hE⟩
 simp only [den,bZ,upd_same];rfl
theorem P5 {m:Nat} {a b c d y:Value} (g:Nat) (h:Calls P f args w (fun e w'=>∃ u,e = .returned (.tuple #[u,.agg #[a,b,c,d],y])∧Un w' u m∧Ex w w')) :
  Calls P f args w (fun e w'=>∃ F,(∀ k,bG (F k)=true)∧e = .returned (den α (upd γ g F) (.t [.c g 0,.a [.v a,.v b,.v c,.v d],.v y]))∧(dW m).R w' F∧Ex w w'):=Calls.mono h fun e w' ⟨u,he,hU,hE⟩=>by
 obtain ⟨A,c,hu⟩:=Un.jX hU
 subst hu he
 refine ⟨wo [.slice A (limbs m).length c],eG rfl,?_,hU,hE⟩
 simp only [den,bZ,upd_same];rfl
theorem aaG {z:Int} {y:Value} (g:Nat) (h:Calls P f args w (fun e w'=>∃ u,e = .returned (.tuple #[u,y])∧Zn w' u z∧Ex w w')) :
  Calls P f args w (fun e w'=>∃ F,(∀ k,bG (F k)=true)∧e = .returned (den α (upd γ g F) (.t [.a [.c g 0,.c g 1],.v y]))∧(Wu z).R w' F∧Ex w w'):=Calls.mono h fun e w' ⟨u,he,⟨A,c,hu,hU⟩,hE⟩=>by
 subst hu he
 refine ⟨wo [.bool (decide (z<0)),.slice A (limbs z.natAbs).length c],eG rfl,?_,⟨A,c,rfl,hU⟩,hE⟩
 simp only [den,bZ,upd_same];rfl
end
section
variable {P:Program} {Q:Exit→Act→World→Prop} {n:Nat} {ds:List Deferred} {w0:World} {cs:List Code} {l:Fr} {B:Bx} {Γ:Gm} {L:List Oper} {ord:Option (List Nat)} {l0:Fr} {B0:Bx} {Γ0:Gm}
theorem Ub {c c':Code} (l':Fr) (B':Bx) (Γ':Gm) (h1:HV P Q n ds w0 cs l' B' Γ') (h2:HV P Q n ds w0 cs l' B' Γ'→HV P Q n ds w0 (c::c'::cs) l B Γ):HV P Q n ds w0 (c::c'::cs) l B Γ:=h2 h1
theorem Uc {X:Type} {p:X→Prop} {c:Code} (l':X→Fr) (B':X→Bx) (Γ':X→Gm) (h1:∀ x,p x→HV P Q n ds w0 cs (l' x) (B' x) (Γ' x)) (h2:(∀ x,p x→HV P Q n ds w0 cs (l' x) (B' x) (Γ' x))→HV P Q n ds w0 (c::cs) l B Γ):HV P Q n ds w0 (c::cs) l B Γ:=h2 h1
theorem xy {tr:Tr} {d:Nat} {o:Oper} {f:FuncId} {y:Operand} {fs cap:List SV} {xs:List Operand} {ats:Array TypeId} {ss:List SV} {rd:List Nat} {lr:Fr} {Γr:Gm} (gs:List Nat) (g:Nat) (S:Spec) (res:SV) (hy:FV lr y f fs cap)
  (ho:nth L (oi ord tr.length)=some o) (hop:o.op = .call { callee:=.value y,args:=xs.toArray,argTypes:=ats }) (hd:o.dst=some d) (hrd:DK L o.guard++(vG y++P6 xs)=rd) (hlr:kI (uX l0 tr) rd=lr) (hg:jT L lr o.guard=some true)
  (hx:evs lr xs=some ss) (hΓ:qj (E5 Γ0 tr) gs=Γr) (hf:∀ (u:Array Value) X,(callFunc f u).run P X = .ok (.enter f u) X)
  (BM:∀ α γ w,Holds w0 [] Γr α γ w→Calls P f (bZ α γ fs++(bZ α γ ss++bZ α γ cap)).toArray w (fun e w'=>∃ F,(∀ k,bG (F k)=true)∧e = .returned (den α (upd γ g F) res)∧(∀ X:Nat→Prop,(∀ k,X k→k<w.heap.size∧Ei w k)→S.P X w' F)∧Ex w w'))
  (h:DA P Q n ds w0 cs L ord l0 B0 Γ0 (⟨some d,res,rd,[],gs,none,none,some (g,S)⟩::tr)):DA P Q n ds w0 cs L ord l0 B0 Γ0 tr:=fun ha=>h (by
 subst hΓ hlr
 exact ⟨.call o d g S res rd gs f y fs cap xs ats ss ho hop hd hg hy hx hf BM,ha⟩)
theorem toS {P:Program} {f:FuncId} {args:Array Value} {w:World} {α:Env} {γ:kR} {g:Nat} {res:SV} {S:RS} (h:Calls P f args w (fun e w'=>∃ F,(∀ k,bG (F k)=true)∧e = .returned (den α (upd γ g F) res)∧S.R w' F∧Ex w w')) :
 Calls P f args w (fun e w'=>∃ F,(∀ k,bG (F k)=true)∧e = .returned (den α (upd γ g F) res)∧(∀ X:Nat→Prop,(∀ k,X k→k<w.heap.size∧Ei w k)→S.S.P X w' F)∧Ex w w'):=Calls.mono h fun e w' ⟨F,h1,h2,h3,h4⟩=>⟨F,h1,h2,RS.new h3 h4,h4⟩
theorem nk {tr:Tr} {d:Nat} {o:Oper} {f:FuncId} {y:Operand} {xs:List Operand} {ats:Array TypeId} {ss:List SV} {rd:List Nat} {lr:Fr} (g:Nat) (v:Value)
  (ho:nth L (oi ord tr.length)=some o) (hop:o.op = .call { callee:=.value y,args:=xs.toArray,argTypes:=ats }) (hd:o.dst=some d) (hrd:DK L o.guard++(vG y++P6 xs)=rd) (hlr:kI (uX l0 tr) rd=lr) (hg:jT L lr o.guard=some true)
  (hy:ev lr y=some (.v (.func (.func f) #[] #[]))) (hx:evs lr xs=some ss) (hf:∀ (u:Array Value) X,(callFunc f u).run P X = .ok (.enter f u) X)
  (BM:∀ α γ w,Calls P f (bZ α γ ss).toArray w (fun e w'=>e = .returned v∧Ex w w'))
  (h:DA P Q n ds w0 cs L ord l0 B0 Γ0 (⟨some d,.v v,rd,[],[],none,none,some (g,TR.S)⟩::tr)):DA P Q n ds w0 cs L ord l0 B0 Γ0 tr :=
 xy [] g TR.S (.v v) (.inr ⟨rfl,rfl,hy⟩) ho hop hd hrd hlr hg hx rfl hf (fun α γ w _=>Calls.mono (uJ (BM α γ w)) fun e w' ⟨h1,h2⟩=>⟨fun _=>.bool false,fun _=>rfl,h1,RS.new trivial h2,h2⟩) h
theorem kS {r:nu} {i m d:Nat} {o:Oper} {f:FuncId} {y:Operand} {fs cap:List SV} {xs:List Operand} {ats:Array TypeId} {ss:List SV} (g:Nat) (S:RS) (res:SV)
  (ho:nth L i=some o) (hop:o.op = .call { callee:=.value y,args:=xs.toArray,argTypes:=ats }) (hd:o.dst=some d) (hg:jT L l o.guard=some true) (hy:ev l y=some (.f f fs cap)) (hx:evs l xs=some ss) (hfr:fresh g l B Γ=true) (hf:∀ (u:Array Value) X,(callFunc f u).run P X = .ok (.enter f u) X)
  (BM:∀ α γ w,Holds w0 B Γ α γ w→Calls P f (bZ α γ fs++(bZ α γ ss++bZ α γ cap)).toArray w (fun e w'=>∃ F,(∀ k,bG (F k)=true)∧e = .returned (den α (upd γ g F) res)∧S.R w' F∧Ex w w'))
  (h:HA P Q n ds w0 cs L r ((d,res)::l) B ((g,S.S)::Γ)):HA P Q n ds w0 cs L ((false,i,m)::r) l B Γ:=fun α γ w hH=>by
 obtain ⟨h1,h2,h3⟩:=mM hfr
 refine gY ho hop hd (gy hg α γ) (bT hy) (xz hx) hf (Calls.mono (BM α γ w hH) ?_)
 rintro e w' ⟨F,hF,rfl,hR,hE⟩
 have DF:=hH.ext hE
 have hA:=h α (upd γ g F) w' (DF.add g S.S F h2 hF ⟨hR,DF.noU⟩ h3)
 rw [qm,mO l h1] at hA
 exact ⟨_,rfl,trivial,hA⟩
theorem Ej {tr:Tr} {d:Nat} {o:Oper} {x:Operand} {t e:TypeId} {g k:Nat} {S:RS} {rd:List Nat} {lr:Fr} (N:Nat) (hu:P.underlying t=some (.slice e))
  (ho:nth L (oi ord tr.length)=some o) (hop:o.op = .call { callee:=.builtin .len,args:=#[x],argTypes:=#[t] }) (hd:o.dst=some d) (hrd:DK L o.guard++vG x=rd) (hlr:kI (uX l0 tr) rd=lr) (hg:jT L lr o.guard=some true)
  (hx:ev lr x=some (.c g k)) (hΓ:lW (qj (E5 Γ0 tr) [g]) g=some S.S) (hv:∀ w f,S.R w f→∃ A c,f k = .slice A N c)
  (h:DA P Q n ds w0 cs L ord l0 B0 Γ0 (⟨some d,vI ((N:Nat):Int),rd,[],[g],none,none,none⟩::tr)):DA P Q n ds w0 cs L ord l0 B0 Γ0 tr :=
 BN (vI ((N:Nat):Int)) (vG x) [g] ho hd hrd hlr hg rfl (fun α γ w hH ρ hρ=>by
  obtain ⟨A,c,e1⟩:=hv w _ (hH.r g hΓ)
  obtain ⟨d',op',t',ps',af',gu'⟩:=o
  cases hop
  have e:=hρ.dK (bT (α:=α) (γ:=γ) hx)
  have e2:den α γ (.c g k) = .slice A N c:=e1
  rw [e2] at e
  simp [go_sem,e,Builtin.len_,run_underlying hu,den]) h
theorem BO {r:nu} {i m d:Nat} {o:Oper} {x:Operand} {t e:TypeId} {A:Option Addr} {N c:Nat} (hu:P.underlying t=some (.slice e)) (ho:nth L i=some o) (hop:o.op = .call { callee:=.builtin .len,args:=#[x],argTypes:=#[t] }) (hd:o.dst=some d) (hg:jT L l o.guard=some true) (hx:ev l x=some (.v (.slice A N c)))
  (h:HA P Q n ds w0 cs L r ((d,vI ((N:Nat):Int))::l) B Γ):HA P Q n ds w0 cs L ((false,i,m)::r) l B Γ:=fun α γ w hH =>
 P7 (A:=A) (c:=c) hu trivial ho hop hd (gy hg α γ) (bT hx) (h α γ w hH)
theorem wu {r:nu} {i m d:Nat} {o:Oper} {x y:Operand} {t:TypeId} {v j p:Value} (h1:∀ X,(Instr.indexAt t v j).run P X = .ok p X) (ho:nth L i=some o) (hop:o.op = .indexAddr t x y) (hd:o.dst=some d) (hg:jT L l o.guard=some true) (hx:ev l x=some (.v v)) (hy:ev l y=some (.v j))
  (h:HA P Q n ds w0 cs L r ((d,.v p)::l) B Γ):HA P Q n ds w0 cs L ((false,i,m)::r) l B Γ:=sJ (.v p) ho hd hg (fun α γ w _ ρ hρ=>by
 unfold execOp
 rw [hop]
 refine dI _ w ?_
 rw [hρ.dK (bT hx),hρ.dK (bT hy)]
 exact h1 w) h
theorem ww {r:nu} {i m d:Nat} {o:Oper} {x:Operand} {t:TypeId} {v p:Value} (h1:∀ X,Ex w0 X→(Instr.loadAt t p).run P X = .ok v X) (ho:nth L i=some o) (hop:o.op = .load t x) (hd:o.dst=some d) (hg:jT L l o.guard=some true) (hx:ev l x=some (.v p))
  (h:HA P Q n ds w0 cs L r ((d,.v v)::l) B Γ):HA P Q n ds w0 cs L ((false,i,m)::r) l B Γ:=sJ (.v v) ho hd hg (fun α γ w hH ρ hρ=>by
 unfold execOp
 rw [hop]
 refine dI _ w ?_
 rw [hρ.dK (bT hx)]
 exact h1 w hH.ex) h
theorem Wv {r:nu} {i m d:Nat} {o:Oper} {x y:Operand} {t:Array TypeId} {k:IntKind} {a b c:Int} (hc:max a b=c) (ho:nth L i=some o) (hop:o.op = .call { callee:=.builtin .max,args:=#[x,y],argTypes:=t }) (hd:o.dst=some d) (hg:jT L l o.guard=some true) (hx:ev l x=some (.v (.int k a))) (hy:ev l y=some (.v (.int k b)))
  (h:HA P Q n ds w0 cs L r ((d,.v (.int k c))::l) B Γ):HA P Q n ds w0 cs L ((false,i,m)::r) l B Γ:=sJ (.v (.int k c)) ho hd hg (fun α γ w hH ρ hρ=>by
 subst hc
 unfold execOp;rw [hop]
 refine dI (Builtin.max_ _ _ (#[x,y].map ρ)) w ?_
 have e1:ρ x = .int k a:=hρ.dK (bT (α:=α) (γ:=γ) hx)
 have e2:ρ y = .int k b:=hρ.dK (bT (α:=α) (γ:=γ) hy)
 rw [show #[x,y].map ρ=#[.int k a,.int k b] from by simp [e1,e2]]
 have e:max a b=if b>a then b else a:=by split<;>omega
 rw [show den α γ (.v (.int k (max a b))) = .int k (max a b) from rfl]
 rw [e]
 exact run_max_int2 _ _ _ _ _ _ _) h
theorem kV {r:nu} {i m d:Nat} {o:Oper} {x:Operand} {t:TypeId} {p:Value} (s:SV) (h1:∀ α γ X,Ex w0 X→(Instr.loadAt t p).run P X = .ok (den α γ s) X) (ho:nth L i=some o) (hop:o.op = .load t x) (hd:o.dst=some d) (hg:jT L l o.guard=some true) (hx:ev l x=some (.v p))
  (h:HA P Q n ds w0 cs L r ((d,s)::l) B Γ):HA P Q n ds w0 cs L ((false,i,m)::r) l B Γ:=sJ s ho hd hg (fun α γ w hH ρ hρ=>by
 unfold execOp
 rw [hop]
 refine dI _ w ?_
 rw [hρ.dK (bT hx)]
 exact h1 α γ w hH.ex) h
theorem aaH {r:nu} {i m d:Nat} {o:Oper} {x:Operand} {t:TypeId} {T:TI} {N q k off q':Nat} (hT:E8 P T) (hk:T.off t k=some off) (hq:q+off=q') (ho:nth L i=some o) (hop:o.op = .fieldAddr t x k) (hd:o.dst=some d) (hg:jT L l o.guard=some true) (hx:ev l x=some (.v (.pointer (some ⟨N,q,none⟩))))
  (h:HA P Q n ds w0 cs L r ((d,.v (.pointer (some ⟨N,q',none⟩)))::l) B Γ):HA P Q n ds w0 cs L ((false,i,m)::r) l B Γ:=sJ (.v (.pointer (some ⟨N,q',none⟩))) ho hd hg (fun α γ w hH ρ hρ=>by
 subst hq
 unfold execOp
 rw [hop]
 refine dI _ w ?_
 rw [hρ.dK (bT hx)]
 exact hT.off t k off hk N q w) h
theorem Ww {r:nu} {i m d:Nat} {o:Oper} {f:FuncId} {xs:List Operand} {ss:List SV} (ho:nth L i=some o) (hop:o.op = .makeFunc (.func f) ([]:List Operand).toArray xs.toArray) (hd:o.dst=some d) (hg:jT L l o.guard=some true) (hx:evs l xs=some ss)
  (h:HA P Q n ds w0 cs L r ((d,.f f [] ss)::l) B Γ):HA P Q n ds w0 cs L ((false,i,m)::r) l B Γ:=fun α γ w hH =>
 nZ (fs:=[]) trivial ho hop hd (gy hg α γ) rfl (xz hx) (h α γ w hH)
theorem NJ {ρ:Operand→Value} {o:Oper} {t:TypeId} {xs:Array (Nat × Operand)} {pl:List (Nat × Value)} {cells:Array Value} (hop:o.op = .build t xs) (hp:(xs.toList.map fun x=>(x.1,ρ x.2))=pl) (h:P.built t pl=some cells) (X:World):(execOp ρ o).run P X = .ok (.value (.agg cells)) X:=by
 unfold execOp
 rw [hop]
 refine dI _ X ?_
 show (Instr.build t (xs.map fun x=>(x.1,ρ x.2))).run P X=_
 exact run_build X t _ cells (by rw [Array.toList_map,hp];exact h)
theorem nQ {r:nu} {i m d:Nat} {o:Oper} (s:SV) (ho:nth L i=some o) (hd:o.dst=some d) (hg:jT L l o.guard=some true) (hk:∀ α γ,known (gI α γ l) o.op=true)
  (he:∀ α γ,(∀ g k,bG (γ g k)=true)→∀ X,(execOp (JQ (gI α γ l)) o).run P X = .ok (.value (den α γ s)) X) (h:HA P Q n ds w0 cs L r ((d,s)::l) B Γ):HA P Q n ds w0 cs L ((false,i,m)::r) l B Γ :=
 sJ s ho hd hg (fun α γ w hH ρ hρ=>by rw [jI hρ (hk α γ)];exact he α γ hH.sc w) h
theorem aaI {tr:Tr} {d:Nat} {o:Oper} {rd:List Nat} {lr:Fr} (s:SV) (Pw:List Nat) (ho:nth L (oi ord tr.length)=some o) (hd:o.dst=some d) (hrd:DK L o.guard++Pw=rd) (hlr:kI (uX l0 tr) rd=lr) (hg:jT L lr o.guard=some true) (hk:∀ α γ,known (gI α γ lr) o.op=true)
  (he:∀ α γ,(∀ g k,bG (γ g k)=true)→∀ X,(execOp (JQ (gI α γ lr)) o).run P X = .ok (.value (den α γ s)) X)
  (h:DA P Q n ds w0 cs L ord l0 B0 Γ0 (⟨some d,s,rd,[],[],none,none,none⟩::tr)):DA P Q n ds w0 cs L ord l0 B0 Γ0 tr :=
 BN s Pw [] ho hd hrd hlr hg rfl (fun α γ w hH ρ hρ=>by rw [jI hρ (hk α γ)];exact he α γ hH.sc w) h
end
end Go.Proofs.YtgcieamfidoaoaaGreatDoor.Rf
namespace Go.Proofs.YtgcieamfidoaoaaGreatDoor.Rf
open Go Go.RowKit Go.Proofs.YtgcieamfidoaoaaGreatDoor.Pl
set_option maxRecDepth 100000
theorem ad9 (a b c:Value) (h:bG c=true):(Tryz.prog).built 36 [(0,.agg #[a,b]),(1,c)]=some #[a,b,c]:=by
 cases c<;>first | (cases h;done) | kernel_rfl
theorem P8 (k e:Int) (b:Bool) (s:Value) (h:bG s=true):(Tryz.prog).built 26 [(0,.int .i64 k),(1,.bool b),(2,s),(3,.int .i64 e)]=some #[.int .i64 k,.bool b,s,.int .i64 e]:=by
 cases s<;>first | (cases h;done) | kernel_rfl
theorem bF3 (k e:Int) (s:Value) (h:bG s=true):(Tryz.prog).built 26 [(0,.int .i64 k),(2,s),(3,.int .i64 e)]=some #[.int .i64 k,.bool false,s,.int .i64 e]:=by
 cases s<;>first | (cases h;done) | kernel_rfl
end Go.Proofs.YtgcieamfidoaoaaGreatDoor.Rf
