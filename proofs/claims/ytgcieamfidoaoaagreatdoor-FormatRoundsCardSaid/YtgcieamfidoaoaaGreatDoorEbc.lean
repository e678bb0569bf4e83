/- Many plain steps at once; what several equations tell, told by one. -/
import Derived.Test.YtgcieamfidoaoaaGreatDoorEbb
set_option linter.all false
set_option maxHeartbeats 8000000
namespace Go.Proofs.YtgcieamfidoaoaaGreatDoor.Pl
open Go Go.RowKit
set_option maxRecDepth 100000
theorem en {P:Program} {f:FuncId} {fn:Func} (hf:P.funcs[f]?=some fn) (h:(fn.name != "runtime.NumGoroutine" && fn.body.isSome)=true:=by kernel_rfl) (u:Array Value) (X:World):(callFunc f u).run P X = .ok (.enter f u) X:=by
 rw [Bool.and_eq_true] at h
 obtain ⟨c,hc⟩:=Option.isSome_iff_exists.1 h.2
 exact enters hf (by simpa using h.1) hc u X
end Go.Proofs.YtgcieamfidoaoaaGreatDoor.Pl
namespace Go.Proofs.YtgcieamfidoaoaaGreatDoor.Rf
open Go Go.RowKit Go.Proofs.YtgcieamfidoaoaaGreatDoor.Pl
set_option maxRecDepth 100000
abbrev vI (z:Int):SV:=.v (.int .i64 z)
abbrev vB (b:Bool):SV:=.v (.bool b)
abbrev vT:SV:=.v (.bool true)
abbrev vF:SV:=.v (.bool false)
abbrev vN:SV:=.v (.slice none 0 0)
def sqs:Nat→List Code→List Code
 | m+1,.seq a b::r=>sqs m (a::b::r)
 | _,r=>r
def vW (T:TI) (L:List Oper):nu→Fr→Bx→Nat→Option (nu × Fr × Bx × Nat)
 | (false,i,m)::r,l,B,k=>match nth L i with
  | none=>some ((false,i,m)::r,l,B,k)
  | some o=>match jT L l o.guard with
   | none=>some ((false,i,m)::r,l,B,k)
   | some false=>match o.dst with
    | some d=>vW T L r ((d,.v undef)::l) B k
    | none=>some ((false,i,m)::r,l,B,k)
   | some true=>match O3 T l B k o.op with
    | none=>some ((false,i,m)::r,l,B,k)
    | some (some s,B',k')=>match o.dst with
     | some d=>vW T L r ((d,s)::l) B' k'
     | none=>some ((false,i,m)::r,l,B,k)
    | some (none,B',k')=>match o.dst with
     | none=>vW T L r l B' k'
     | some _=>some ((false,i,m)::r,l,B,k)
 | r,l,B,k=>some (r,l,B,k)
theorem yE {T:TI} {L:List Oper}:∀ (r:nu) {l:Fr} {B:Bx} {k:Nat},vW T L r l B k=some (Dh T L r l B k)
 | [],l,B,k=>rfl
 | (true,i,m)::r,l,B,k=>rfl
 | (false,i,m)::r,l,B,k=>by
  unfold vW Dh
  cases nth L i with
  | none=>rfl
  | some o =>
   dsimp only
   cases jT L l o.guard with
   | none=>rfl
   | some b =>
    cases b with
    | false =>
     dsimp only
     cases o.dst with
     | none=>rfl
     | some d=>exact yE r
    | true =>
     dsimp only
     cases O3 T l B k o.op with
     | none=>rfl
     | some q =>
      obtain ⟨s,B',k'⟩:=q
      cases s with
      | none =>
       dsimp only
       cases o.dst with
       | none=>exact yE r
       | some d=>rfl
      | some s =>
       dsimp only
       cases o.dst with
       | none=>rfl
       | some d=>exact yE r
theorem yF {T:TI} {L:List Oper} {r r':nu} {l l':Fr} {B B':Bx} {k k':Nat} (h:vW T L r l B k=some (r',l',B',k')):Dh T L r l B k=(r',l',B',k'):=by
 rw [yE] at h;exact Option.some.inj h
def KF (n:Nat) (T:TI) (q:Nat):Nat→List Code→Fr→Bx→Nat→Option (List Code × Fr × Bx × Nat)
 | 0,cs,l,B,k=>some (sqs q cs,l,B,k)
 | m+1,cs,l,B,k=>match sqs 200 cs with
  | .skip::r=>KF n T q m r l B k
  | .cond c x y::r=>match ev l c with
   | some (.v (.bool true))=>KF n T q m (x::r) l B k
   | some (.v (.bool false))=>KF n T q m (y::r) l B k
   | _=>none
  | .region _ ⟨L⟩ false::r=>match rZ n L with
   | true=>match vW T L (Py 0 L) l B k with
    | some ([],l',B',k')=>KF n T q m r l' B' k'
    | _=>none
   | false=>none
  | _=>none
def VW (n:Nat) (T:TI) (m:Nat) (cs:List Code) (l:Fr) (B:Bx) (k:Nat):Option (List Oper × nu × List Code × Fr × Bx × Nat):=match KF n T 200 m cs l B k with
 | some (.region _ ⟨L⟩ false::r,l1,B1,k1)=>match rZ n L with
  | true=>match vW T L (Py 0 L) l1 B1 k1 with
   | some (p,l',B',k')=>some (L,p,r,l',B',k')
   | none=>none
  | false=>none
 | _=>none
def acU (n:Nat) (T:TI) (q:Nat) (L:List Oper) (p:nu) (m:Nat) (cs:List Code) (l:Fr) (B:Bx) (k:Nat):Option (List Code × Fr × Bx × Nat):=match vW T L p l B k with
 | some ([],l1,B1,k1)=>KF n T q m cs l1 B1 k1
 | _=>none
def XC (n:Nat) (T:TI) (L:List Oper) (p:nu) (m:Nat) (cs:List Code) (l:Fr) (B:Bx) (k:Nat):Option (List Oper × nu × List Code × Fr × Bx × Nat):=match vW T L p l B k with
 | some ([],l1,B1,k1)=>VW n T m cs l1 B1 k1
 | _=>none
section
variable {P:Program} {Q:Exit→Act→World→Prop} {n:Nat} {ds:List Deferred} {w0:World} {Γ:Gm} {T:TI}
theorem GI:∀ (m:Nat) {cs:List Code} {l:Fr} {B:Bx},HV P Q n ds w0 (sqs m cs) l B Γ→HV P Q n ds w0 cs l B Γ
 | 0,cs,l,B,h=>by
  have e:sqs 0 cs=cs:=by cases cs with | nil=>rfl | cons c r=>cases c<;>rfl
  rw [e] at h;exact h
 | m+1,cs,l,B,h=>by
  cases cs with
  | nil=>exact h
  | cons c r=>cases c with
   | seq a b=>exact aO (GI m h)
   | _=>exact h
theorem wS (hT:E8 P T) {q:Nat}:∀ (m:Nat) {cs cs':List Code} {l l':Fr} {B B':Bx} {k k':Nat},KF n T q m cs l B k=some (cs',l',B',k')→HV P Q n ds w0 cs' l' B' Γ→HV P Q n ds w0 cs l B Γ
 | 0,cs,cs',l,l',B,B',k,k',e,h=>by
  cases e;exact GI q h
 | m+1,cs,cs',l,l',B,B',k,k',e,h=>by
  refine GI 200 ?_
  unfold KF at e
  split at e
  · next r hc=>rw [hc];exact pQ (wS hT m e h)
  · next c x y r hc =>
    rw [hc]
    split at e
    · next hv=>exact pR hv (wS hT m e h)
    · next hv=>exact kv hv (wS hT m e h)
    · cases e
  · next id L r hc =>
    rw [hc]
    split at e
    · next hk =>
      split at e
      · next l1 B1 k1 hx=>exact dH (L:=L) hk (ay hT k (yF hx) (gK (wS hT m e h)))
      · cases e
    · cases e
  · cases e
theorem Nh (hT:E8 P T) {m:Nat} {cs cs':List Code} {l l':Fr} {B B':Bx} {k k':Nat} {L:List Oper} {p:nu} (e:VW n T m cs l B k=some (L,p,cs',l',B',k')) (h:HA P Q n ds w0 cs' L p l' B' Γ):HV P Q n ds w0 cs l B Γ:=by
 unfold VW at e
 split at e
 · next id L1 r l1 B1 k1 ha =>
   refine wS hT m ha ?_
   split at e
   · next hk =>
     split at e
     · next p1 l2 B2 k2 hx =>
       cases e
       exact dH (L:=L) hk (ay hT _ (yF hx) h)
     · cases e
   · cases e
 · cases e
theorem HX (hT:E8 P T) (m k:Nat) {cs cs':List Code} {l l':Fr} {B B':Bx} {k':Nat} (e:KF n T 200 m cs l B k=some (cs',l',B',k')) (h:HV P Q n ds w0 cs' l' B' Γ):HV P Q n ds w0 cs l B Γ:=wS hT m e h
theorem HX0 (hT:E8 P T) (m k:Nat) {cs cs':List Code} {l l':Fr} {B B':Bx} {k':Nat} (e:KF n T 0 m cs l B k=some (cs',l',B',k')) (h:HV P Q n ds w0 cs' l' B' Γ):HV P Q n ds w0 cs l B Γ:=wS hT m e h
theorem bu (hT:E8 P T) (m k:Nat) {cs cs':List Code} {l l':Fr} {B B':Bx} {k':Nat} {L:List Oper} {p:nu} (e:VW n T m cs l B k=some (L,p,cs',l',B',k')) (h:HA P Q n ds w0 cs' L p l' B' Γ):HV P Q n ds w0 cs l B Γ:=Nh hT e h
theorem HY (hT:E8 P T) (m k:Nat) {cs cs':List Code} {l l':Fr} {B B':Bx} {k':Nat} {L:List Oper} {p:nu} (e:acU n T 200 L p m cs l B k=some (cs',l',B',k')) (h:HV P Q n ds w0 cs' l' B' Γ):HA P Q n ds w0 cs L p l B Γ:=by
 unfold acU at e
 split at e
 · next hx=>exact ay hT k (yF hx) (gK (wS hT m e h))
 · cases e
theorem HY0 (hT:E8 P T) (m k:Nat) {cs cs':List Code} {l l':Fr} {B B':Bx} {k':Nat} {L:List Oper} {p:nu} (e:acU n T 0 L p m cs l B k=some (cs',l',B',k')) (h:HV P Q n ds w0 cs' l' B' Γ):HA P Q n ds w0 cs L p l B Γ:=by
 unfold acU at e
 split at e
 · next hx=>exact ay hT k (yF hx) (gK (wS hT m e h))
 · cases e
theorem bY (hT:E8 P T) (m k:Nat) {cs cs':List Code} {l l':Fr} {B B':Bx} {k':Nat} {L L':List Oper} {p p':nu} (e:XC n T L p m cs l B k=some (L',p',cs',l',B',k')) (h:HA P Q n ds w0 cs' L' p' l' B' Γ):HA P Q n ds w0 cs L p l B Γ:=by
 unfold XC at e
 split at e
 · next hx=>exact ay hT k (yF hx) (gK (Nh hT e h))
 · cases e
end
def hdS:SV→Option SV
 | .v x=>some (.v x)
 | .p b o=>some (.p b o)
 | .c g k=>some (.c g k)
 | .a l=>some (.a l)
 | .t l=>some (.t l)
 | .f a b c=>some (.f a b c)
theorem ZK (s:SV):hdS s=some s:=by cases s<;>rfl
def O9:List SV→Option (List SV)
 | []=>some []
 | s::r=>match hdS s with
  | some s'=>match O9 r with
   | some r'=>some (s'::r')
   | none=>none
  | none=>none
theorem GJ:∀ l:List SV,O9 l=some l
 | []=>rfl
 | s::r=>by unfold O9;rw [ZK,GJ r]
def frS:SV→Option SV
 | .a l=>match O9 l with
  | some l'=>some (.a l')
  | none=>none
 | s=>hdS s
theorem ZL (s:SV):frS s=some s:=by
 cases s with
 | a l=>show (match O9 l with | some l'=>some (SV.a l') | none=>none)=_;rw [GJ]
 | _=>rfl
def VX (l:Fr):List Nat→Option Fr
 | []=>some []
 | t::ts=>match lk l t with
  | some s=>match frS s with
   | some s'=>match VX l ts with
    | some r=>some ((t,s')::r)
    | none=>none
   | none=>none
  | none=>none
theorem Ni {l:Fr}:∀ {ts:List Nat} {l':Fr},VX l ts=some l'→VR l l'
 | [],_,h=>by cases h;trivial
 | t::ts,l',h=>by
  unfold VX at h
  split at h
  · next s hs =>
    rw [ZL] at h
    dsimp only at h
    split at h
    · next r hr=>cases h;exact ⟨hs,Ni hr⟩
    · cases h
  · cases h
def VY (B:Bx):List Nat→Option Bx
 | []=>some []
 | b::bs=>match jU B b with
  | some (u,c)=>match O9 c with
   | some c'=>match VY B bs with
    | some r=>some ((b,u,c')::r)
    | none=>none
   | none=>none
  | none=>none
theorem Nj {B:Bx}:∀ {bs:List Nat} {B':Bx},VY B bs=some B'→VS B B'
 | [],_,h=>by cases h;trivial
 | b::bs,B',h=>by
  unfold VY at h
  split at h
  · next u c hs =>
    rw [GJ] at h
    dsimp only at h
    split at h
    · next r hr=>cases h;exact ⟨hs,Nj hr⟩
    · cases h
  · cases h
def VZ (Γ:Gm):List Nat→Option Gm
 | []=>some []
 | g::gs=>match lW Γ g with
  | some S=>match VZ Γ gs with
   | some r=>some ((g,S)::r)
   | none=>none
  | none=>none
theorem Nk {Γ:Gm}:∀ {gs:List Nat} {Γ':Gm},VZ Γ gs=some Γ'→VT Γ Γ'
 | [],_,h=>by cases h;trivial
 | g::gs,Γ',h=>by
  unfold VZ at h
  split at h
  · next S hs =>
    split at h
    · next r hr=>cases h;exact ⟨hs,Nk hr⟩
    · cases h
  · cases h
def kpA (l:Fr) (B:Bx) (Γ:Gm) (ts bs gs:List Nat):Option (Fr × Bx × Gm):=match VX l ts with
 | some l'=>match VY B bs with
  | some B'=>match VZ Γ gs with
   | some Γ'=>some (l',B',Γ')
   | none=>none
  | none=>none
 | none=>none
theorem aP {P:Program} {Q:Exit→Act→World→Prop} {n:Nat} {ds:List Deferred} {w0:World} {cs:List Code} {l l':Fr} {B B':Bx} {Γ Γ':Gm} (ts bs gs:List Nat) (e:kpA l B Γ ts bs gs=some (l',B',Γ')) (h:HV P Q n ds w0 cs l' B' Γ'):HV P Q n ds w0 cs l B Γ:=by
 unfold kpA at e
 split at e
 · next l1 h1 =>
   split at e
   · next B1 h2 =>
     split at e
     · next G1 h3=>cases e;exact Kb h (Ni h1) (Nj h2) (Nk h3)
     · cases e
   · cases e
 · cases e
section
variable {P:Program} {Q:Exit→Act→World→Prop} {n:Nat} {ds:List Deferred} {w0:World} {cs:List Code} {l:Fr} {B:Bx} {Γ:Gm} {L:List Oper}
theorem iB {cs0:List Code} {id:Nat} (ord:Option (List Nat)) (hm:P.follows .mixedOrders=true) (e:sqs 200 cs0 = .region id L.toArray true::cs) (h:DA P Q n ds w0 cs L ord l B Γ []):HV P Q n ds w0 cs0 l B Γ:=GI 200 (by rw [e];exact aQ ord hm h)
theorem ah {r:nu} {i m d:Nat} {o:Oper} {x y:Operand} {op:BinOp} {tx ty:TypeId} {u u' v:Value} (hr:∀ X,Bn P op tx x y u u' X = .ok v X)
  (e:(nth L i,o.op,o.dst,jT L l o.guard,ev l x,ev l y)=(some o,.binOp op tx x y ty,some d,some true,some (.v u),some (.v u')))
  (h:HA P Q n ds w0 cs L r ((d,.v v)::l) B Γ):HA P Q n ds w0 cs L ((false,i,m)::r) l B Γ:=by
 simp only [Prod.mk.injEq] at e
 exact Cc hr e.1 e.2.1 e.2.2.1 e.2.2.2.1 e.2.2.2.2.1 e.2.2.2.2.2 h
theorem aC {r:nu} {i m d:Nat} {o:Oper} {f:FuncId} {xs:List Operand} {ats:Array TypeId} {ss:List SV} (g:Nat) (S:RS) (res:SV)
  (e:(nth L i,o.op,o.dst,jT L l o.guard,evs l xs,fresh g l B Γ)=(some o,.call { callee:=.value (.func f),args:=xs.toArray,argTypes:=ats },some d,some true,some ss,true)) (hf:∀ (u:Array Value) X,(callFunc f u).run P X = .ok (.enter f u) X)
  (BM:∀ α γ w,Holds w0 B Γ α γ w→Calls P f (bZ α γ ss).toArray w (fun e w'=>∃ F,(∀ k,bG (F k)=true)∧e = .returned (den α (upd γ g F) res)∧S.R w' F∧Ex w w'))
  (h:HA P Q n ds w0 cs L r ((d,res)::l) B ((g,S.S)::Γ)):HA P Q n ds w0 cs L ((false,i,m)::r) l B Γ:=by
 simp only [Prod.mk.injEq] at e
 exact afz g S res e.1 e.2.1 e.2.2.1 e.2.2.2.1 e.2.2.2.2.1 e.2.2.2.2.2 hf BM h
theorem aV {r:nu} {i m d:Nat} {o:Oper} {x:Operand} {u:UnOp} {t:TypeId} {a:Value} (v:Value) (e:(nth L i,o.op,o.dst,jT L l o.guard,ev l x)=(some o,.unOp u t x,some d,some true,some (.v a))) (hr:∀ X,(Op.unary u a).run P X = .ok v X)
  (h:HA P Q n ds w0 cs L r ((d,.v v)::l) B Γ):HA P Q n ds w0 cs L ((false,i,m)::r) l B Γ:=by
 simp only [Prod.mk.injEq] at e
 exact acT v e.1 e.2.1 e.2.2.1 e.2.2.2.1 e.2.2.2.2 hr h
variable {ord:Option (List Nat)} {l0:Fr} {B0:Bx} {Γ0:Gm} {tr:Tr}
theorem ak {d:Nat} {o:Oper} {f:FuncId} {xs:List Operand} {ats:Array TypeId} {ss:List SV} {rd gs:List Nat} {lr:Fr} {Γr:Gm} (g:Nat) (S:RS) (res:SV)
  (e:(nth L (oi ord tr.length),o.op,o.dst,DK L o.guard++P6 xs,kI (uX l0 tr) rd,jT L lr o.guard,evs lr xs,K8 ss,qj (E5 Γ0 tr) gs)=(some o,.call { callee:=.value (.func f),args:=xs.toArray,argTypes:=ats },some d,rd,lr,some true,some ss,gs,Γr)) (hf:∀ (u:Array Value) X,(callFunc f u).run P X = .ok (.enter f u) X)
  (BM:∀ α γ w,Holds w0 [] Γr α γ w→Calls P f (bZ α γ ss).toArray w (fun e w'=>∃ F,(∀ k,bG (F k)=true)∧e = .returned (den α (upd γ g F) res)∧S.R w' F∧Ex w w'))
  (h:DA P Q n ds w0 cs L ord l0 B0 Γ0 (⟨some d,res,rd,[],gs,none,none,some (g,S.S)⟩::tr)):DA P Q n ds w0 cs L ord l0 B0 Γ0 tr:=by
 simp only [Prod.mk.injEq] at e
 exact ZG g S res e.1 e.2.1 e.2.2.1 e.2.2.2.1 e.2.2.2.2.1 e.2.2.2.2.2.1 e.2.2.2.2.2.2.1 e.2.2.2.2.2.2.2.1 e.2.2.2.2.2.2.2.2 hf BM h
theorem dL {d:Nat} {o:Oper} {rd gs:List Nat} {lr:Fr} {Γr:Gm} {op:BinOp} {tx ty:TypeId} {x y:Operand} {sx sy:SV} (s:SV)
  (e:(nth L (oi ord tr.length),o.op,o.dst,DK L o.guard++(vG x++vG y),kI (uX l0 tr) rd,jT L lr o.guard,ev lr x,ev lr y,gsO sx++gsO sy,qj (E5 Γ0 tr) gs)=(some o,.binOp op tx x y ty,some d,rd,lr,some true,some sx,some sy,gs,Γr))
  (hr:∀ α γ w,Holds w0 [] Γr α γ w→Bn P op tx x y (den α γ sx) (den α γ sy) w = .ok (den α γ s) w)
  (h:DA P Q n ds w0 cs L ord l0 B0 Γ0 (⟨some d,s,rd,[],gs,none,none,none⟩::tr)):DA P Q n ds w0 cs L ord l0 B0 Γ0 tr:=by
 simp only [Prod.mk.injEq] at e
 exact Be s e.1 e.2.1 e.2.2.1 e.2.2.2.1 e.2.2.2.2.1 e.2.2.2.2.2.1 e.2.2.2.2.2.2.1 e.2.2.2.2.2.2.2.1 e.2.2.2.2.2.2.2.2.1 e.2.2.2.2.2.2.2.2.2 hr h
theorem aaa {T:TI} (hT:E8 P T) {fn:Func} {R:Ending→World→Prop} {xs:List ResultVar} {ss:List SV} {cs0:List Code} (e:(sqs 200 cs0,fn.results,SB T l B xs)=(.ret::cs,xs.toArray,some ss)) (h:∀ α γ w,Holds w0 B Γ α γ w→R (.returned (den α γ (tup ss))) w):HV P (bodyPost P fn R) n [] w0 cs0 l B Γ:=by
 simp only [Prod.mk.injEq] at e
 exact GI 200 (by rw [e.1];exact aI hT (fun _ _ h=>h) e.2.1 e.2.2 h)
end
end Go.Proofs.YtgcieamfidoaoaaGreatDoor.Rf
