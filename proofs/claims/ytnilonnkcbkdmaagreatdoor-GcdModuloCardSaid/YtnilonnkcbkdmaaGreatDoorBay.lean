/- Both rests, both cofactors of many steps. -/
import Derived.Test.YtnilonnkcbkdmaaGreatDoorBax
import Derived.Test.YtnilonnkcbkdmaaGreatDoorBat
import Derived.RangeFuncSeq
import Derived.RangeFuncLeaves
import Derived.OrdersIn
import Derived.TacticsIn

namespace Go.Proofs.YtnilonnkcbkdmaaGreatDoor
open Go.RowKit
set_option linter.all false
set_option maxRecDepth 100000
set_option maxHeartbeats 8000000
theorem R5 (w:World) (va vb:Value) (a b u0 u1 v0 v1:Nat) (ha:Un w va a) (hb':Un w vb b) (hla:Sn a 900000) (hlb:Sn b 900000) (hb:u0<4294967296∧u1<4294967296∧v0<4294967296∧v1<4294967296) (h1:v0*b≤u0*a) (h2:u1*a≤v1*b) :
  Calls Tryz.prog 85 #[RF u0 u1 v0 v1 true,va,vb] w fun e w'=>∃ z1 z2,e = .returned (.tuple #[z1,z2])∧Un w' z1 (u0*a-v0*b)∧Un w' z2 (v1*b-u1*a)∧Ext w w':=by
 refine Pl.aV (n:=38) (vs:=[RF u0 u1 v0 v1 true,va,vb]) Tryz.func85 rfl (by kernel_rfl) (by simp) ?_
 repeat refine Pl.az ?_
 refine Pl.ay (by kernel_rfl) ?_
 refine XH rfl rfl rfl rfl rfl (fun _ _=>trivial) ?_
 intro N w1 hB1 k1
 refine Pl.aj trivial rfl rfl rfl rfl rfl ?_
 refine Pl.aj trivial rfl rfl rfl rfl rfl ?_
 refine Pl.ak ?_
 repeat refine Pl.az ?_
 refine Pl.ay (by kernel_rfl) ?_
 refine bg trivial rfl rfl rfl rfl rfl (vM _) ?_
 refine Pl.aH trivial rfl rfl rfl rfl rfl (Cb.Oj k1 (j:=4) rfl) ?_
 refine Pl.ak ?_
 repeat refine Pl.az ?_
 refine Pl.dh rfl ?_
 repeat refine Pl.az ?_
 refine Pl.iN (S:=fun X=>Ext w1 X) [(true,0,0),(true,1,1),(true,2,3),(true,3,7),(true,4,15),(true,5,31),(true,7,63),(true,8,191),(true,9,447),(true,10,959),(true,11,1983),(true,12,4031),(false,6,8127),(false,13,8191),(true,14,16383),(true,15,32767)] fo Pl.aD (by kernel_rfl) (Ext.drew (Ext.refl w1)) ?_
 have hB2:=Ext.drew (Ext.refl w1)
 generalize w1.drew=w2 at *
 intro hS2
 have k2:=k1
 refine Pl.ah hS2 rfl rfl rfl rfl rfl ?_
 refine bg hS2 rfl rfl rfl rfl rfl (yI _) ?_
 refine Pl.aR hS2 rfl rfl rfl rfl rfl (fun X hX=>Cb.vK (j:=0) (Cb.ext k2 hX) rfl) ?_
 refine Pl.ah hS2 rfl rfl rfl rfl rfl ?_
 refine bg hS2 rfl rfl rfl rfl rfl (vL _) ?_
 refine Pl.aR hS2 rfl rfl rfl rfl rfl (fun X hX=>Cb.vK (j:=2) (Cb.ext k2 hX) rfl) ?_
 refine Pl.ah hS2 rfl rfl rfl rfl rfl ?_
 refine bg hS2 rfl rfl rfl rfl rfl (yK _) ?_
 refine Pl.aR hS2 rfl rfl rfl rfl rfl (fun X hX=>Cb.vK (j:=3) (Cb.ext k2 hX) rfl) ?_
 refine Pl.ah hS2 rfl rfl rfl rfl rfl ?_
 refine bg hS2 rfl rfl rfl rfl rfl (yJ _) ?_
 refine Pl.aR hS2 rfl rfl rfl rfl rfl (fun X hX=>Cb.vK (j:=1) (Cb.ext k2 hX) rfl) ?_
 refine Pl.aA rfl rfl rfl rfl rfl (fun u X=>Pl.enters Tryz.func109 (by kernel_rfl) rfl u X) ?_
 refine Calls.mono (uu _ _ _ a b u0 v0 (Un.below ha (hB1.below hB2)) (Un.below hb' (hB1.below hB2)) hla hlb hb.1 hb.2.2.1 h1) ?_
 rintro e w3 ⟨z1,rfl,hz1,hB3⟩
 have Ex:=Ext.below hS2 hB3
 refine ⟨_,rfl,Ex,?_⟩
 refine Pl.aA rfl rfl rfl rfl rfl (fun u X=>Pl.enters Tryz.func109 (by kernel_rfl) rfl u X) ?_
 refine Calls.mono (uu _ _ _ b a v1 u1 (Un.below hb' (hB1.below (hB2.below hB3))) (Un.below ha (hB1.below (hB2.below hB3))) hlb hla hb.2.2.2 hb.2.1 h2) ?_
 rintro e w4 ⟨z2,rfl,hz2,hB4⟩
 have pG:=Ext.below Ex hB4
 refine ⟨_,rfl,pG,?_⟩
 refine Pl.aj pG rfl rfl rfl rfl rfl ?_
 refine Pl.aj pG rfl rfl rfl rfl rfl ?_
 refine Pl.ak ?_
 refine Pl.iV rfl rfl rfl ⟨z1,z2,rfl,Un.below hz1 hB4,hz2,hB1.below (hB2.below (hB3.below hB4))⟩
theorem Yb (w:World) (va vb:Value) (a b u0 u1 v0 v1:Nat) (ha:Un w va a) (hb':Un w vb b) (hla:Sn a 900000) (hlb:Sn b 900000) (hb:u0<4294967296∧u1<4294967296∧v0<4294967296∧v1<4294967296) (h1:u0*a≤v0*b) (h2:v1*b≤u1*a) :
  Calls Tryz.prog 85 #[RF u0 u1 v0 v1 false,va,vb] w fun e w'=>∃ z1 z2,e = .returned (.tuple #[z1,z2])∧Un w' z1 (v0*b-u0*a)∧Un w' z2 (u1*a-v1*b)∧Ext w w':=by
 refine Pl.aV (n:=38) (vs:=[RF u0 u1 v0 v1 false,va,vb]) Tryz.func85 rfl (by kernel_rfl) (by simp) ?_
 repeat refine Pl.az ?_
 refine Pl.ay (by kernel_rfl) ?_
 refine XH rfl rfl rfl rfl rfl (fun _ _=>trivial) ?_
 intro N w1 hB1 k1
 refine Pl.aj trivial rfl rfl rfl rfl rfl ?_
 refine Pl.aj trivial rfl rfl rfl rfl rfl ?_
 refine Pl.ak ?_
 repeat refine Pl.az ?_
 refine Pl.ay (by kernel_rfl) ?_
 refine bg trivial rfl rfl rfl rfl rfl (vM _) ?_
 refine Pl.aH trivial rfl rfl rfl rfl rfl (Cb.Oj k1 (j:=4) rfl) ?_
 refine Pl.ak ?_
 repeat refine Pl.az ?_
 refine Pl.bD rfl ?_
 repeat refine Pl.az ?_
 refine Pl.bN ?_
 repeat refine Pl.az ?_
 refine Pl.iN (S:=fun X=>Ext w1 X) [(true,0,0),(true,1,1),(true,2,3),(true,3,7),(true,4,15),(true,5,31),(true,7,63),(true,8,191),(true,9,447),(true,10,959),(true,11,1983),(true,12,4031),(false,6,8127),(false,13,8191),(true,14,16383),(true,15,32767)] fo Pl.aD (by kernel_rfl) (Ext.drew (Ext.refl w1)) ?_
 have hB2:=Ext.drew (Ext.refl w1)
 generalize w1.drew=w2 at *
 intro hS2
 have k2:=k1
 refine Pl.ah hS2 rfl rfl rfl rfl rfl ?_
 refine bg hS2 rfl rfl rfl rfl rfl (vL _) ?_
 refine Pl.aR hS2 rfl rfl rfl rfl rfl (fun X hX=>Cb.vK (j:=2) (Cb.ext k2 hX) rfl) ?_
 refine Pl.ah hS2 rfl rfl rfl rfl rfl ?_
 refine bg hS2 rfl rfl rfl rfl rfl (yI _) ?_
 refine Pl.aR hS2 rfl rfl rfl rfl rfl (fun X hX=>Cb.vK (j:=0) (Cb.ext k2 hX) rfl) ?_
 refine Pl.ah hS2 rfl rfl rfl rfl rfl ?_
 refine bg hS2 rfl rfl rfl rfl rfl (yJ _) ?_
 refine Pl.aR hS2 rfl rfl rfl rfl rfl (fun X hX=>Cb.vK (j:=1) (Cb.ext k2 hX) rfl) ?_
 refine Pl.ah hS2 rfl rfl rfl rfl rfl ?_
 refine bg hS2 rfl rfl rfl rfl rfl (yK _) ?_
 refine Pl.aR hS2 rfl rfl rfl rfl rfl (fun X hX=>Cb.vK (j:=3) (Cb.ext k2 hX) rfl) ?_
 refine Pl.aA rfl rfl rfl rfl rfl (fun u X=>Pl.enters Tryz.func109 (by kernel_rfl) rfl u X) ?_
 refine Calls.mono (uu _ _ _ b a v0 u0 (Un.below hb' (hB1.below hB2)) (Un.below ha (hB1.below hB2)) hlb hla hb.2.2.1 hb.1 h1) ?_
 rintro e w3 ⟨z1,rfl,hz1,hB3⟩
 have Ex:=Ext.below hS2 hB3
 refine ⟨_,rfl,Ex,?_⟩
 refine Pl.aA rfl rfl rfl rfl rfl (fun u X=>Pl.enters Tryz.func109 (by kernel_rfl) rfl u X) ?_
 refine Calls.mono (uu _ _ _ a b u1 v1 (Un.below ha (hB1.below (hB2.below hB3))) (Un.below hb' (hB1.below (hB2.below hB3))) hla hlb hb.2.1 hb.2.2.2 h2) ?_
 rintro e w4 ⟨z2,rfl,hz2,hB4⟩
 have pG:=Ext.below Ex hB4
 refine ⟨_,rfl,pG,?_⟩
 refine Pl.aj pG rfl rfl rfl rfl rfl ?_
 refine Pl.aj pG rfl rfl rfl rfl rfl ?_
 refine Pl.ak ?_
 refine Pl.iV rfl rfl rfl ⟨z1,z2,rfl,Un.below hz1 hB4,hz2,hB1.below (hB2.below (hB3.below hB4))⟩
theorem OY (w:World) (va vb:Value) (a b u0 u1 v0 v1:Nat) (ev:Bool) (ha:Un w va a) (hb':Un w vb b) (hla:Sn a 900000) (hlb:Sn b 900000) (hb:u0<4294967296∧u1<4294967296∧v0<4294967296∧v1<4294967296) :
  Calls Tryz.prog 84 #[RF u0 u1 v0 v1 ev,va,vb] w fun e w'=>∃ z1 z2,e = .returned (.tuple #[z1,z2])∧Un w' z1 (u0*a+v0*b)∧Un w' z2 (u1*a+v1*b)∧Ext w w':=by
 refine Pl.aV (n:=25) (vs:=[RF u0 u1 v0 v1 ev,va,vb]) Tryz.func84 rfl (by kernel_rfl) (by simp) ?_
 repeat refine Pl.az ?_
 refine Pl.ay (by kernel_rfl) ?_
 refine XH rfl rfl rfl rfl rfl (fun _ _=>trivial) ?_
 intro N w1 hB1 k1
 refine Pl.aj trivial rfl rfl rfl rfl rfl ?_
 refine Pl.aj trivial rfl rfl rfl rfl rfl ?_
 refine Pl.ak ?_
 repeat refine Pl.az ?_
 refine Pl.ay (by kernel_rfl) ?_
 refine Pl.aj trivial rfl rfl rfl rfl rfl ?_
 refine Pl.ak ?_
 repeat refine Pl.az ?_
 refine Pl.iN (S:=fun X=>Ext w1 X) [(true,0,0),(true,1,1),(true,2,3),(true,3,7),(true,4,15),(true,5,31),(true,6,63),(true,8,127),(true,9,383),(true,10,895),(true,11,1919),(true,12,3967),(true,13,8063),(true,14,16255),(false,7,32639),(false,15,32767),(true,16,65535),(true,17,131071)] fo Pl.aD (by kernel_rfl) (Ext.drew (Ext.refl w1)) ?_
 have hB2:=Ext.drew (Ext.refl w1)
 generalize w1.drew=w2 at *
 intro hS2
 have k2:=k1
 refine Pl.ah hS2 rfl rfl rfl rfl rfl ?_
 refine Pl.ah hS2 rfl rfl rfl rfl rfl ?_
 refine bg hS2 rfl rfl rfl rfl rfl (yI _) ?_
 refine Pl.aR hS2 rfl rfl rfl rfl rfl (fun X hX=>Cb.vK (j:=0) (Cb.ext k2 hX) rfl) ?_
 refine Pl.ah hS2 rfl rfl rfl rfl rfl ?_
 refine bg hS2 rfl rfl rfl rfl rfl (vL _) ?_
 refine Pl.aR hS2 rfl rfl rfl rfl rfl (fun X hX=>Cb.vK (j:=2) (Cb.ext k2 hX) rfl) ?_
 refine Pl.ah hS2 rfl rfl rfl rfl rfl ?_
 refine Pl.ah hS2 rfl rfl rfl rfl rfl ?_
 refine bg hS2 rfl rfl rfl rfl rfl (yJ _) ?_
 refine Pl.aR hS2 rfl rfl rfl rfl rfl (fun X hX=>Cb.vK (j:=1) (Cb.ext k2 hX) rfl) ?_
 refine Pl.ah hS2 rfl rfl rfl rfl rfl ?_
 refine bg hS2 rfl rfl rfl rfl rfl (yK _) ?_
 refine Pl.aR hS2 rfl rfl rfl rfl rfl (fun X hX=>Cb.vK (j:=3) (Cb.ext k2 hX) rfl) ?_
 refine Pl.iB rfl rfl rfl rfl rfl rfl (fun u X=>Pl.enters Tryz.func108 (by kernel_rfl) rfl u X) ?_
 refine Calls.mono (JK _ _ _ a b u0 v0 (Un.below ha (hB1.below hB2)) (Un.below hb' (hB1.below hB2)) hla hlb hb.1 hb.2.2.1) ?_
 rintro e w3 ⟨z1,rfl,hz1,hB3⟩
 have Ex:=Ext.below hS2 hB3
 refine ⟨_,rfl,Ex,?_⟩
 refine Pl.iB rfl rfl rfl rfl rfl rfl (fun u X=>Pl.enters Tryz.func108 (by kernel_rfl) rfl u X) ?_
 refine Calls.mono (JK _ _ _ a b u1 v1 (Un.below ha (hB1.below (hB2.below hB3))) (Un.below hb' (hB1.below (hB2.below hB3))) hla hlb hb.2.1 hb.2.2.2) ?_
 rintro e w4 ⟨z2,rfl,hz2,hB4⟩
 have pG:=Ext.below Ex hB4
 refine ⟨_,rfl,pG,?_⟩
 refine Pl.aj pG rfl rfl rfl rfl rfl ?_
 refine Pl.aj pG rfl rfl rfl rfl rfl ?_
 refine Pl.ak ?_
 refine Pl.iV rfl rfl rfl ⟨z1,z2,rfl,Un.below hz1 hB4,hz2,hB1.below (hB2.below (hB3.below hB4))⟩
end Go.Proofs.YtnilonnkcbkdmaaGreatDoor
/- Ranges over functions, walked with the frame as a list of what is known. -/
namespace Go.Proofs.YtnilonnkcbkdmaaGreatDoor.Pl
open Go
set_option linter.all false
set_option maxRecDepth 100000
set_option maxHeartbeats 8000000
/-! Ranges over functions: code inside a round, calls of yield, the statement itself. -/
abbrev WF (ro:Option Nat):Fence:={ Fence.wide with round:=ro }
theorem Re {ro:Option Nat} {n:Nat} {P:Program} {f:FuncId} {args:Array Value} {w:World} {R:Ending→World→Prop}:CallsIn (WF ro) n P f args w R↔Calls P f args w R:=callsIn_wide (n:=n)
def KsI (P:Program) (ro:Option Nat) (Q:Exit→Act→World→Prop):List Code→Exit→Act→World→Prop
 | []=>Q
 | c::cs=>Exit.then (c.wpIn (WF ro) 0 P (KsI P ro Q cs)) (KsI P ro Q cs)
def VI (P:Program) (Q:Exit→Act→World→Prop) (ro:Option Nat) (n:Nat) (ds:List Deferred) (cs:List Code) (l:List (Nat × Value)) (w:World):Prop :=
 ∀ a,Ag n ds a l→KsI P ro Q cs .normal a w
theorem JD {P:Program} {Q:Exit→Act→World→Prop}:∀ (cs:List Code) (e:Exit) (a:Act) (w:World),KsI P none Q cs e a w↔Ks P Q cs e a w
 | [],e,a,w=>Iff.rfl
 | c::cs,e,a,w=>by
  have ih:=JD (P:=P) (Q:=Q) cs
  cases e with
  | normal =>
   show c.wpIn Fence.wide 0 P (KsI P none Q cs) a w↔c.wp P (Ks P Q cs) a w
   rw [wpIn_wide]
   exact ⟨fun h=>wp_mono h fun e a w h=>(ih e a w).1 h,fun h=>wp_mono h fun e a w h=>(ih e a w).2 h⟩
  | _=>exact ih _ a w
section
variable {P:Program} {Q:Exit→Act→World→Prop} {ro:Option Nat} {n:Nat} {ds:List Deferred} {cs:List Code} {l:List (Nat × Value)} {w:World} {x y:Code}
theorem Og (h:V P Q n ds cs l w):VI P Q none n ds cs l w:=fun a ha=>(JD _ _ _ _).2 (h a ha)
theorem XC (h:VI P Q none n ds cs l w):V P Q n ds cs l w:=fun a ha=>(JD _ _ _ _).1 (h a ha)
theorem XD:∀ {cs:List Code} {a:Act} {w:World},Q .ret a w→KsI P ro Q cs .ret a w
 | [],_,_,h=>h
 | _::cs,_,_,h=>XD (cs:=cs) h
theorem jW (h:VI P Q ro n ds (x::y::cs) l w):VI P Q ro n ds (.seq x y::cs) l w:=fun a ha=>wpIn_seq (h a ha)
theorem FE (h:VI P Q ro n ds cs l w):VI P Q ro n ds (.skip::cs) l w:=fun a ha=>wpIn_skip (h a ha)
theorem ahC {c:Operand} (hc:ig l c=some (.bool true)) (h:VI P Q ro n ds (x::cs) l w):VI P Q ro n ds (.cond c x y::cs) l w:=fun a ha=>wpIn_cond_true (ha.cons.ig hc) (h a ha)
theorem O5 {c:Operand} (hc:ig l c=some (.bool false)) (h:VI P Q ro n ds (y::cs) l w):VI P Q ro n ds (.cond c x y::cs) l w:=fun a ha=>wpIn_cond_false (ha.cons.ig hc) (h a ha)
theorem alJ (h:∀ a,Ag n ds a l→Q .ret a w):VI P Q ro n ds (.ret::cs) l w:=fun a ha=>wpIn_ret (XD (h a ha))
theorem AR (h:∀ a,Ag n ds a l→Q .normal a w):VI P Q ro n ds [] l w:=h
theorem Gi {id:Nat} {b:Code} (h:VI P (Exit.inBlock id (KsI P ro Q cs)) ro n ds [b] l w):VI P Q ro n ds (.block id b::cs) l w:=fun a ha=>wpIn_block (h a ha)
theorem tF {id:Nat} (h:VI P Q ro n ds cs l w):VI P (Exit.inBlock id (KsI P ro Q cs)) ro n ds [] l w:=fun a ha=>h a ha
theorem XE {id:Nat}:∀ {cs:List Code} {a:Act} {w:World},Q (.exit id) a w→Ks P Q cs (.exit id) a w
 | [],_,_,h=>h
 | _::cs,_,_,h=>XE (cs:=cs) h
theorem R8 {id:Nat} {cs':List Code} (h:V P Q n ds cs l w):V P (Exit.inBlock id (Ks P Q cs)) n ds (.exit id::cs') l w:=fun a ha=>wp_exit (by
 refine XE ?_
 show (if id=id then Ks P Q cs .normal a w else _)
 rw [if_pos rfl]
 exact h a ha)
/-! A loop of few rounds, one round after another. -/
def Unr (P:Program) (Q:Exit→Act→World→Prop) (n:Nat) (ds:List Deferred) (cs:List Code) (c:Code):Nat→List (Nat × Value)→World→Prop
 | 0,l,w=>V P (Exit.then (fun _ _=>False) (Ks P Q cs)) n ds [c] l w
 | k+1,l,w=>V P (Exit.then (fun a' w'=>∃ l',Ag n ds a' l'∧Unr P Q n ds cs c k l' w') (Ks P Q cs)) n ds [c] l w
theorem uU {c:Code} (k:Nat) (h:Unr P Q n ds cs c k l w):V P Q n ds (.loop c::cs) l w:=by
 refine mU (fun k l w=>Unr P Q n ds cs c k l w) k h fun k l w hU=>?_
 cases k with
 | zero =>
  intro a ha
  refine wp_mono (hU a ha) fun e a w hq=>?_
  cases e with
  | normal=>exact hq.elim
  | _=>exact hq
 | succ k =>
  intro a ha
  refine wp_mono (hU a ha) fun e a w hq=>?_
  cases e with
  | normal=>obtain ⟨l',ha',h'⟩:=hq;exact ⟨k,l',Nat.lt_succ_self k,ha',h'⟩
  | _=>exact hq
theorem xX {c:Code} {k:Nat} (h:V P (Exit.then (fun a' w'=>∃ l',Ag n ds a' l'∧Unr P Q n ds cs c k l' w') (Ks P Q cs)) n ds [c] l w):Unr P Q n ds cs c (k+1) l w:=h
theorem uV {c:Code} (h:V P (Exit.then (fun _ _=>False) (Ks P Q cs)) n ds [c] l w):Unr P Q n ds cs c 0 l w:=h
theorem xY {c:Code} {k:Nat} {Q':Exit→Act→World→Prop} (h:Unr P Q n ds cs c k l w):V P (Exit.then (fun a' w'=>∃ l',Ag n ds a' l'∧Unr P Q n ds cs c k l' w') Q') n ds [] l w:=fun a ha=>⟨l,ha,h⟩
/-! A return from inside of loops and blocks. -/
theorem Yt {id:Nat} {a:Act} (h:Q .ret a w):Exit.inBlock id Q .ret a w:=h
theorem abO {N:Act→World→Prop} {a:Act} (h:Q .ret a w):Exit.then N Q .ret a w:=h
theorem ahO {fn:Func} {R:Ending→World→Prop} {t:Tmp} {v:Value} {a:Act} (ha:Ag n [] a l) (hr:fn.results=#[.tmp t]) (hv:look l t=some v) (h:R (.returned v) w):bodyPost P fn R .ret a w:=by
 refine ⟨ha.defers,v,?_,h⟩
 unfold results
 rw [hr]
 have:a.tmps.getD t undef=v:=by rw [Array.getD_eq_getD_getElem?,ha.look t v hv];rfl
 simp only [List.mapM_toArray,List.mapM_cons,List.mapM_nil,this]
 rfl
/-! Operations. -/
theorem CZ {ρ:Operand→Value} {o:Oper} {w w':World} {x:Next} (h:(execOp ρ o).run P w = .ok x w') (hx:∀ d,x≠.defer d):(o.semAt ro ρ).run P w = .ok x w':=by
 by_cases hd:∃ c,o.op = .defer c
 · obtain ⟨c,hc⟩:=hd
   exfalso
   unfold execOp at h
   rw [hc] at h
   simp only [Sem.run_bind] at h
   revert h
   generalize (resolve ρ _ _).run P w=r
   intro h
   cases r with
   | ok d w1 =>
    simp only [Result.andThen] at h
    revert h
    first
     | (intro h;simp only [Sem.run_pure,Result.ok.injEq] at h;exact hx _ h.1.symm)
     | skip
   | halt e w1=>simp [Result.andThen] at h
 · rw [Oper.semAt_eq _ _ _ (fun c hc=>hd ⟨c,hc⟩)];exact h
end
section
variable {P:Program} {L:List Oper} {S:World→Prop} {K:List (Nat × Value)→World→Prop} {Q:Exit→Act→World→Prop} {ro:Option Nat} {n f:Nat} {ds:List Deferred}
theorem yH {o:Oper} {w:World} {ρ:Operand→Value}:∀ f,o.about P w ρ=some f→(WF ro).fn f:=fun _ _=>trivial
theorem JE {m:Nat}:(WF ro).depth.isSome=true→1≤m:=fun h=>by cases h
theorem agb {k:Bool} {i m:Nat} {l:List (Nat × Value)} {w:World} {a:Act} {o:Oper} {R:Act→World→Prop} (hd:∀ d,o.dst=some d→d<n) (ho:nth L i=some o) (ha:Ag n ds a l) (hS:S w)
  (h:gY P L S K ((false,i,m)::[]) l w) (hR:∀ a l w,Ag n ds a l→S w→K l w→R a w):wpOpIn (WF ro) 0 P L.toArray Q i (fun a' w'=>S w'∧R a' w') a w:=by
 obtain ⟨o',ho',h⟩:=h
 obtain rfl:o=o':=Option.some.inj (ho.symm.trans ho')
 have hoi:L.toArray[i]?=some o:=by rw [List.getElem?_toArray,← wE];exact ho
 unfold wpOpIn
 simp only [hoi]
 rcases h with ⟨d,v,h1,_⟩ | ⟨d,hdd,hg,h⟩ | ⟨d,f,vs,h1,hdd,hg,hx,h⟩ | ⟨d,v,w',h1,hdd,hg,hx,hS',h⟩ | ⟨w',h1,hdd,hg,hx,hS',h⟩
 · cases h1
 · rw [if_neg (by rw [kQ ha hg];exact Bool.false_ne_true),hdd]
   exact ⟨yH,hS,hR _ _ _ (ha.put (hd d hdd) _) hS h⟩
 · rw [if_pos (kQ ha hg)]
   refine ⟨yH,?_⟩
   rw [CZ (hx _ ha.cons) (fun d hd=>by cases hd),Oper.uponIn_enter]
   refine ⟨JE,Re.2 (Calls.mono h fun e w' he=>?_)⟩
   obtain ⟨v,rfl,hS',h⟩:=he
   rw [hdd]
   exact ⟨hS',hR _ _ _ (ha.put (hd d hdd) _) hS' h⟩
 · rw [if_pos (kQ ha hg)]
   refine ⟨yH,?_⟩
   rw [CZ (hx _ ha.cons) (fun d hd=>by cases hd),Oper.uponIn_value,hdd]
   exact ⟨hS',hR _ _ _ (ha.put (hd d hdd) _) hS' h⟩
 · rw [if_pos (kQ ha hg)]
   refine ⟨yH,?_⟩
   rw [CZ (hx _ ha.cons) (fun d hd=>by cases hd),Oper.uponIn_skip,hdd]
   exact ⟨hS',hR _ _ _ ha hS' h⟩
def wpY (P:Program) (L:List Oper) (K:List (Nat × Value)→World→Prop):List (Bool × Nat × Nat)→List (Nat × Value)→World→Prop
 | [],l,w=>K l w
 | (k,i,m)::r,l,w=>gY P L (fun _=>True) (wpY P L K r) ((k,i,m)::[]) l w ∨
  ∃ o d q fn tmps assign body,nth L i=some o∧o.dst=some d∧gd L l o.guard=some true∧(∀ ρ,Cons ρ l→(execOp ρ o).run P w = .ok (.round q fn tmps assign body) w) ∧
   RoundIn Fence.wide 0 P q fn tmps assign body w (fun e w'=>∃ v,e = .returned v∧wpY P L K r ((d,v)::l) w')
theorem J8 {i m:Nat} {r:List (Bool × Nat × Nat)} {l:List (Nat × Value)} {w:World} (h:gY P L (fun _=>True) (wpY P L K r) ((false,i,m)::[]) l w):wpY P L K ((false,i,m)::r) l w:=.inl h
theorem Vs {l:List (Nat × Value)} {w:World} (h:K l w):wpY P L K [] l w:=h
theorem Em (hd:∀ i o d,nth L i=some o→o.dst=some d→d<n) :
  ∀ (rest pre:List Oper) (l:List (Nat × Value)) (w:World) (a:Act),L=pre++rest→Ag n ds a l→wpY P L (fun l w=>∀ a,Ag n ds a l→Q .normal a w) (idp pre.length rest) l w→wpListIn (WF ro) 0 P L.toArray Q rest a w
 | [],pre,l,w,a,_,ha,h=>h a ha
 | o :: rest,pre,l,w,a,hL,ha,h=>by
  have hoi:=Rb hL
  have hL':L=(pre++[o])++rest:=by rw [hL];simp
  have hlen:(pre++[o]).length=pre.length+1:=by simp
  have hop:L.toArray[pre.length]?=some o:=by rw [List.getElem?_toArray,← wE];exact hoi
  rcases h with h | ⟨o',d,q,fn,tmps,assign,body,ho',hdd,hg,hx,h⟩
  · have h1:=agb (ro:=ro) (k:=false) (m:=0) (Q:=Q) (S:=fun _=>True) (R:=fun a w=>wpListIn (WF ro) 0 P L.toArray Q rest a w) (hd _ o · hoi) hoi ha trivial h
     (fun a l w ha hS h=>Em hd rest (pre++[o]) l w a hL' ha (by rw [hlen];exact h))
    unfold wpOpIn at h1
    rw [hop] at h1
    dsimp only at h1
    unfold wpListIn
    by_cases hw:Region.wanted o (yielded L.toArray a.tmps)=true
    · rw [if_pos hw] at h1 ⊢
      exact Oper.wpIn_mono (fun a w h=>h.2) h1
    · rw [if_neg hw] at h1 ⊢
      exact ⟨h1.1,h1.2.2⟩
  · obtain rfl:o=o':=Option.some.inj (hoi.symm.trans ho')
    unfold wpListIn
    rw [if_pos (kQ ha hg)]
    refine ⟨yH,?_⟩
    rw [CZ (hx _ ha.cons) (fun d hd=>by cases hd),Oper.uponIn_round]
    refine ⟨JE,RoundIn.mono (show RoundIn (WF ro) 0 P q fn tmps assign body w _ from h) fun e w' he=>?_⟩
    obtain ⟨v,rfl,h⟩:=he
    rw [hdd]
    exact Em hd rest (pre++[o]) _ w' _ hL' (ha.put (hd _ _ _ hoi hdd) _) (by rw [hlen];exact h)
theorem JF {cs:List Code} {id:Nat} {l:List (Nat × Value)} {w:World} (hk:CX n L=true)
  (h:wpY P L (VI P Q ro n ds cs) (idp 0 L) l w):VI P Q ro n ds (.region id L.toArray false::cs) l w:=fun a ha =>
 wpIn_region_list (by simpa using Em (Q:=KsI P ro Q cs) (pY hk) L [] l w a rfl ha h)
theorem JG:∀ (r:List (Bool × Nat × Nat)) (l:List (Nat × Value)) (w:World),(∀ x∈r,x.1=false)→gY P L (fun _=>True) K r l w→wpY P L K r l w
 | [],l,w,_,h=>h
 | (k,i,m)::r,l,w,hr,h=>by
  have hr':∀ x∈r,x.1=false:=fun x hx=>hr x (List.mem_cons_of_mem _ hx)
  exact .inl (qG (fun l w h=>JG r l w hr' h) ((k,i,m)::[]) l w (Oe h))
theorem Ml:∀ (l:List Oper) (i:Nat),∀ x∈idp i l,x.1=false
 | [],_,x,h=>by cases h
 | _::l,i,x,h=>by
  unfold idp at h
  rcases List.mem_cons.1 h with rfl | h
  · rfl
  · exact Ml l (i+1) x h
theorem lI {cs:List Code} {id:Nat} {l:List (Nat × Value)} {w:World} (hk:CX n L=true)
 (h:gY P L (fun _=>True) (VI P Q ro n ds cs) (idp 0 L) l w):VI P Q ro n ds (.region id L.toArray false::cs) l w:=JF hk (JG _ _ _ (Ml _ _) h)
theorem KP {cs:List Code} {id:Nat} {l:List (Nat × Value)} {w:World} (hk:CX n L=true)
 (h : wpY P L (V P Q n ds cs) (idp 0 L) l w):V P Q n ds (.region id L.toArray false::cs) l w:=XC (JF hk (by
  have mono:∀ {K K':List (Nat × Value)→World→Prop} (hK:∀ l w,K l w→K' l w) (r:List (Bool × Nat × Nat)) (l:List (Nat × Value)) (w:World),wpY P L K r l w→wpY P L K' r l w:=by
   intro K K' hK r
   induction r with
   | nil=>exact fun l w h=>hK l w h
   | cons x r ih =>
    obtain ⟨k,i,m⟩:=x
    intro l w h
    rcases h with h | ⟨o,d,q,fn,tmps,assign,body,ho,hdd,hg,hx,h⟩
    · exact .inl (qG (fun l w h=>ih l w h) _ l w h)
    · exact .inr ⟨o,d,q,fn,tmps,assign,body,ho,hdd,hg,hx,RoundIn.mono h fun e w' he=>by obtain ⟨v,he,h⟩:=he;exact ⟨v,he,ih _ _ h⟩⟩
  exact mono (fun l w h=>Og h) _ _ _ h))
theorem Vr {i m d:Nat} {o:Oper} {r:List (Bool × Nat × Nat)} {l:List (Nat × Value)} {w:World} {t:Operand} {xs:List Operand} {ats:Array TypeId} {vs:List Value} {q:Nat} {rec:Loop}
 (ho:nth L i=some o) (hop:o.op = .call { callee:=.value t,args:=xs.toArray,argTypes:=ats }) (hd:o.dst=some d) (hg:gd L l o.guard=some true)
 (ht:ig l t=some (.func (.yield q) #[] #[])) (hx:zM l xs=some vs) (hrec:w.heap[q]?=some (.loop rec)) (hs:vs.length=rec.params.size)
 (h:RoundIn Fence.wide 0 P q rec.fn ((rec.params.zip vs.toArray).foldl (fun tmps (t,a)=>tmps.setIfInBounds t a) rec.tmps) rec.assign rec.body w (fun e w'=>∃ v,e = .returned v∧wpY P L K r ((d,v)::l) w')) :
 wpY P L K ((false,i,m)::r) l w:=.inr ⟨o,d,q,rec.fn,_,rec.assign,rec.body,ho,hd,hg,fun ρ hρ=>by
  unfold execOp
  rw [hop]
  show (resolve ρ _ _ >>= fun d=>invoke d.target d.args).run P w=_
  unfold resolve
  show (Deferred.ofValue (ρ t) (xs.toArray.map ρ) >>= fun d=>invoke d.target d.args).run P w=_
  rw [hρ.ig ht]
  show (Instr.yield q ((#[]++xs.toArray.map ρ)++#[])).run P w=_
  have e:(#[]++xs.toArray.map ρ)++#[]=vs.toArray:=by rw [← hρ.zM hx];simp
  rw [e]
  exact run_yield hrec (by simpa using hs),h⟩
end
section
variable {P:Program} {Q:Exit→Act→World→Prop} {n:Nat} {ds:List Deferred} {cs:List Code} {l:List (Nat × Value)} {w:World}
theorem Gg {q fn:Nat} {tmps:Array Value} {assign body:Code} {R:Ending→World→Prop} (hA:Ag n [] { tmps:=tmps,defers:=[] } l)
  (h:VI P (Exit.then (fun a w=>∃ l' w2,Ag n [] a l'∧(Instr.beginRound q).run P w = .ok () w2∧VI P (roundPost P q R) (some q) n [] [body] l' w2) (fun _ _ _=>False)) (some q) n [] [assign] l w):RoundIn Fence.wide 0 P q fn tmps assign body w R:=by
 refine roundIn_of_wpIn trivial ?_
 refine Code.wpIn_mono (fun e a w h=>?_) (h _ hA)
 cases e with
 | normal =>
  obtain ⟨l',w2,ha,hb,hv⟩:=h
  exact ⟨w2,hb,hv a ha⟩
 | _=>exact h
theorem ML {g:Operand} {ps:Array Tmp} {assign body:Code} {gf:FuncId} {lb:List Value} (hg:ig l g=some (.func (.func gf) #[] lb.toArray)) (hen:∀ (u:Array Value) X,(callFunc gf u).run P X = .ok (.enter gf u) X)
  (h : ∀ (fn:FuncId) (tmps:Array Value) (rec:Loop),rec={ state:=.ready,pending:=none,fn:=fn,tmps:=tmps,params:=ps,assign:=assign,body:=body,defers:=w.heap.size }→Ag n ds { tmps:=tmps,defers:=ds } l →
   Calls P gf (Value.func (.yield (w.heap.size+1)) #[] #[]::lb).toArray ((w.alloc (.deferred (some []))).alloc (.loop rec)) fun e w3=>∃ v r3,e = .returned v∧w3.heap[w.heap.size+1]?=some (.loop r3)∧r3.state≠.busy ∧
    (match r3.pending with
     | none=>V P Q n ({ target:=.collected w.heap.size,args:=#[] }::ds) cs l (w3.putObj (w.heap.size+1) (.loop { r3 with state:=.exhausted }))
     | some c=>V P Q n ({ target:=.collected w.heap.size,args:=#[] }::ds) (c::cs) l (w3.putObj (w.heap.size+1) (.loop { r3 with state:=.exhausted })))) :
  V P Q n ds (.rangeFunc g ps assign body::cs) l w:=XC fun a ha=>by
 refine wpIn_rangeFunc (n:=0) fun fn _=>?_
 have hA:Ag n ds { tmps:=a.tmps,defers:=ds } l:=⟨ha.size,rfl,ha.look⟩
 have hc:=h fn a.tmps _ rfl hA
 have he:=run_enterLoop_outer (P:=P) (w:=w) fn a.tmps ps assign body
 generalize (w.alloc (.deferred (some []))).alloc (.loop { state:=.ready,pending:=none,fn:=fn,tmps:=a.tmps,params:=ps,assign:=assign,body:=body,defers:=w.heap.size })=w1 at hc he
 refine ⟨w.heap.size+1,_,w1,{ target:=.fn (.func gf) lb.toArray,args:=#[.func (.yield (w.heap.size+1)) #[] #[]] },w1,gf,(Value.func (.yield (w.heap.size+1)) #[] #[]::lb).toArray,w1,he,?_,fun _ _=>trivial,?_,JE (ro:=none),?_⟩
 · simp only [resolve,ha.cons.ig hg]
   simp [go_sem]
 · have:=hen (Value.func (.yield (w.heap.size+1)) #[] #[]::lb).toArray
   simpa [invoke,go_sem] using this w1
 · refine Re.2 (Calls.mono hc fun e w3 he=>?_)
   obtain ⟨v,r3,rfl,hl,hb,hq⟩:=he
   refine ⟨r3.pending,_,run_endLoop hl hb,?_⟩
   have hag:Ag n ({ target:=.collected w.heap.size,args:=#[] }::ds) { a with defers:=[{ target:=.collected w.heap.size,args:=#[] }]++a.defers } l:=⟨ha.size,by simp [ha.defers],ha.look⟩
   cases hp:r3.pending with
   | none=>rw [hp] at hq;exact Og hq _ hag
   | some c=>rw [hp] at hq;exact Og hq _ hag
def Mm (P:Program) (fn:Func) (R:Ending→World→Prop):Exit→Act→World→Prop
 | .ret,a,w=>bodyPostM Fence.wide 0 P fn R .ret a w
 | .normal,a,w=>bodyPostM Fence.wide 0 P fn R .normal a w
 | _,_,_=>False
theorem O9 {fn:Func} {R:Ending→World→Prop}:∀ c (d:Option Tmp) v a w,Mm P fn R (.panic c) (a.put d v) w→Mm P fn R (.panic c) a w:=fun _ _ _ _ _ h=>h
theorem Dn {f:FuncId} {fn:Func} {c:Code} {vs:List Value} {R:Ending→World→Prop} (hf:P.funcs[f]?=some fn) (hb:fn.body=some c) (hn:Nat.beq fn.ntmps n=true) (hle:Nat.ble vs.length n=true)
  (h:V P (Mm P fn R) n [] [c] (af' 0 vs) w):Calls P f vs.toArray w R:=by
 have hn':vs.length≤n:=Nat.le_of_ble_eq_true hle
 have hn2:fn.ntmps=n:=(beq_iff _ _).1 hn
 have h1:c.wp P (bodyPostM Fence.wide 0 P fn R) { tmps:=vs.toArray++Array.replicate (fn.ntmps-vs.toArray.size) undef,defers:=[] } w:=by
  refine wp_mono (h _ ⟨?_,rfl,fun t v ht=>?_⟩) fun e a w hq=>?_
  · rw [hn2];simp;omega
  · obtain ⟨_,hj⟩:=El ht
    rw [Nat.sub_zero] at hj
    have hlt:t<vs.length:=(List.getElem?_eq_some_iff.1 hj).1
    show (vs.toArray++Array.replicate (fn.ntmps-vs.toArray.size) undef)[t]?=some v
    rw [Array.getElem?_append_left (by simpa using hlt)]
    simpa using hj
  · cases e with
    | normal=>exact hq
    | ret=>exact hq
    | _=>exact hq.elim
 exact callsIn_wide.1 (callsIn_of_wp_marks hf hb trivial (wpIn_wide.2 h1) rfl)
theorem Rf {fn:Func} {R:Ending→World→Prop} {D:Nat} {l:List (Nat × Value)} {w:World} {v:Value} (hK:w.heap[D]?=some (.deferred (some [])))
  (hr:∀ a,Ag n [{ target:=.collected D,args:=#[] }] a l→(results fn a.tmps).run P (w.putObj D (.deferred none)) = .ok v (w.putObj D (.deferred none))) (h:R (.returned v) (w.putObj D (.deferred none))) :
  ∀ a,Ag n [{ target:=.collected D,args:=#[] }] a l→Mm P fn R .ret a w:=fun a ha=>by
 show LeavesInM Fence.wide 0 P fn a.tmps R a.defers .returning w
 rw [ha.defers]
 exact ⟨by simp,.inl ⟨D,_,rfl,run_takeDeferred hK,v,hr a ha,h⟩⟩
theorem xM {fn:Func} {R:Ending→World→Prop} {D:Nat} {l:List (Nat × Value)} {w:World} {v:Value} (hK:w.heap[D]?=some (.deferred (some [])))
 (hr:∀ a,Ag n [{ target:=.collected D,args:=#[] }] a l→(results fn a.tmps).run P (w.putObj D (.deferred none)) = .ok v (w.putObj D (.deferred none))) (h:R (.returned v) (w.putObj D (.deferred none))) :
 V P (Mm P fn R) n [{ target:=.collected D,args:=#[] }] (.ret::cs) l w:=BS (Rf hK hr h)
theorem Kc {fn:Func} {R:Ending→World→Prop} {D id:Nat} {cs':List Code} {l:List (Nat × Value)} {w:World} {v:Value} (hK:w.heap[D]?=some (.deferred (some [])))
 (hr:∀ a,Ag n [{ target:=.collected D,args:=#[] }] a l→(results fn a.tmps).run P (w.putObj D (.deferred none)) = .ok v (w.putObj D (.deferred none))) (h:R (.returned v) (w.putObj D (.deferred none))) :
 V P (Exit.inBlock id (Ks P (Mm P fn R) cs)) n [{ target:=.collected D,args:=#[] }] (.ret::cs') l w:=BS fun a ha=>xK (cs:=cs) (Rf hK hr h a ha)
theorem aaj (p:Tmp) (v:Value) (tmps:Array Value):(#[p].zip #[v]).foldl (fun t (p,v)=>t.setIfInBounds p v) tmps=tmps.setIfInBounds p v:=by simp
theorem Ag.round {tmps:Array Value} {l:List (Nat × Value)} {p:Tmp} (h:Ag n [] { tmps:=tmps,defers:=[] } l) (hp:p<n) (v:Value):Ag n [] { tmps:=(#[p].zip [v].toArray).foldl (fun t (p,v)=>t.setIfInBounds p v) tmps,defers:=[] } ((p,v)::l):=by
 rw [show [v].toArray=#[v] from rfl,aaj]
 exact h.put hp v
theorem Pb {fn:Func} {ds:List Deferred} {l:List (Nat × Value)} {w:World} {t:Tmp} {v:Value} (hr:fn.results=#[.tmp t]) (hv:look l t=some v):∀ a,Ag n ds a l→(results fn a.tmps).run P w = .ok v w:=fun a ha=>by
 unfold results
 rw [hr]
 have:a.tmps.getD t undef=v:=by rw [Array.getD_eq_getD_getElem?,ha.look t v hv];rfl
 simp only [List.mapM_toArray,List.mapM_cons,List.mapM_nil,this]
 rfl
end
end Go.Proofs.YtnilonnkcbkdmaaGreatDoor.Pl
