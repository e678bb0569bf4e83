/- More steps: lengths, conversions, signs; loops of few rounds; cuts; what is known of the types. -/
import Derived.Test.YtgcieamfidoaoaaGreatDoorEay
import Derived.Test.YtgcieamfidoaoaaGreatDoorEba
import Derived.Test.YtgcieamfidoaoaaGreatDoorEav
import Derived.Test.YtgcieamfidoaoaaGreatDoorEaz
import Derived.Deep.Cut
import Derived.Deep.RegionHeld3
set_option linter.all false
set_option maxHeartbeats 8000000
namespace Go.Proofs.YtgcieamfidoaoaaGreatDoor.Rf
open Go Go.RowKit Go.Proofs.YtgcieamfidoaoaaGreatDoor.Pl
set_option maxRecDepth 100000
section
variable {P:Program} {Q:Exit→Act→World→Prop} {n:Nat} {ds:List Deferred} {cs:List Code} {l:List (Nat × Value)} {w:World}
def OG (P:Program) (Q:Exit→Act→World→Prop) (n:Nat) (ds:List Deferred) (cs:List Code) (c:Code):Nat→List (Nat × Value)→World→Prop
 | 0,l,w=>Pl.V P (Exit.then (fun _ _=>False) (Ks P Q cs)) n ds [c] l w
 | k+1,l,w=>Pl.V P (Exit.then (fun a' w'=>∃ l',Ag n ds a' l'∧OG P Q n ds cs c k l' w') (Ks P Q cs)) n ds [c] l w
theorem SX {c:Code} (k:Nat) (h:OG P Q n ds cs c k l w):Pl.V P Q n ds (.loop c::cs) l w:=by
 refine tN (fun k l w=>OG P Q n ds cs c k l w) k h fun k l w hU=>?_
 cases k with
 | zero =>
  intro a ha
  refine Code.wp_mono (fun e a w hq=>?_) (hU a ha)
  cases e with
  | normal=>exact hq.elim
  | _=>exact hq
 | succ k =>
  intro a ha
  refine Code.wp_mono (fun e a w hq=>?_) (hU a ha)
  cases e with
  | normal=>obtain ⟨l',ha',h'⟩:=hq;exact ⟨k,l',Nat.lt_succ_self k,ha',h'⟩
  | _=>exact hq
theorem ZH {c:Code} {k:Nat} (h:Pl.V P (Exit.then (fun a' w'=>∃ l',Ag n ds a' l'∧OG P Q n ds cs c k l' w') (Ks P Q cs)) n ds [c] l w):OG P Q n ds cs c (k+1) l w:=h
theorem SY {c:Code} (h:Pl.V P (Exit.then (fun _ _=>False) (Ks P Q cs)) n ds [c] l w):OG P Q n ds cs c 0 l w:=h
theorem ZI {c:Code} {k:Nat} {Q':Exit→Act→World→Prop} (h:OG P Q n ds cs c k l w):Pl.V P (Exit.then (fun a' w'=>∃ l',Ag n ds a' l'∧OG P Q n ds cs c k l' w') Q') n ds [] l w:=fun a ha=>⟨l,ha,h⟩
end
section
variable {P:Program} {Q:Exit→Act→World→Prop} {n:Nat} {ds:List Deferred} {w0:World} {cs:List Code} {l:Fr} {B:Bx} {Γ:Gm} {L:List Oper}
theorem dD {r:nu} {i m d:Nat} {o:Oper} {x:Operand} {t e:TypeId} {g k:Nat} {S:RS} (N:Nat) (hu:P.underlying t=some (.slice e)) (ho:nth L i=some o) (hop:o.op = .call { callee:=.builtin .len,args:=#[x],argTypes:=#[t] }) (hd:o.dst=some d) (hg:jT L l o.guard=some true) (hx:ev l x=some (.c g k)) (hG:lW Γ g=some S.S)
  (hv:∀ w f,S.R w f→∃ A c,f k = .slice A N c) (h:HA P Q n ds w0 cs L r ((d,.v (.int .i64 ((N:Nat):Int)))::l) B Γ):HA P Q n ds w0 cs L ((false,i,m)::r) l B Γ:=fun α γ w hH=>by
 obtain ⟨A,c,e⟩:=hv w _ (hH.r g hG)
 exact P7 (A:=A) (c:=c) hu trivial ho hop hd (gy hg α γ) (by rw [bT hx];exact congrArg some e) (h α γ w hH)
theorem acT {r:nu} {i m d:Nat} {o:Oper} {x:Operand} {u:UnOp} {t:TypeId} {a:Value} (v:Value) (ho:nth L i=some o) (hop:o.op = .unOp u t x) (hd:o.dst=some d) (hg:jT L l o.guard=some true) (hx:ev l x=some (.v a)) (hr:∀ X,(Op.unary u a).run P X = .ok v X)
  (h:HA P Q n ds w0 cs L r ((d,.v v)::l) B Γ):HA P Q n ds w0 cs L ((false,i,m)::r) l B Γ:=sJ (.v v) ho hd hg (fun α γ w _ ρ hρ=>by
 unfold execOp
 rw [hop]
 refine dI _ w ?_
 rw [hρ.dK (bT hx)]
 exact hr w) h
def HU (P:Program) (Q:Exit→Act→World→Prop) (n:Nat) (ds:List Deferred) (w0:World) (cs:List Code) (c:Code) (k:Nat) (l:Fr) (B:Bx) (Γ:Gm):Prop:=∀ α γ w,Holds w0 B Γ α γ w→OG P Q n ds cs c k (gI α γ l) w
theorem mP {c:Code} (k:Nat) (h:HU P Q n ds w0 cs c k l B Γ):HV P Q n ds w0 (.loop c::cs) l B Γ:=fun α γ w hH=>SX k (h α γ w hH)
theorem iX {c:Code} {k:Nat} (h:HV P (Exit.then (fun a' w'=>∃ l',Ag n ds a' l'∧OG P Q n ds cs c k l' w') (Ks P Q cs)) n ds w0 [c] l B Γ):HU P Q n ds w0 cs c (k+1) l B Γ:=fun α γ w hH=>ZH (h α γ w hH)
theorem ru {c:Code} (h:HV P (Exit.then (fun _ _=>False) (Ks P Q cs)) n ds w0 [c] l B Γ):HU P Q n ds w0 cs c 0 l B Γ:=fun α γ w hH=>SY (h α γ w hH)
theorem eT {c:Code} {k:Nat} {Q':Exit→Act→World→Prop} (h:HU P Q n ds w0 cs c k l B Γ):HV P (Exit.then (fun a' w'=>∃ l',Ag n ds a' l'∧OG P Q n ds cs c k l' w') Q') n ds w0 [] l B Γ:=fun α γ w hH=>ZI (h α γ w hH)
def VR (l:Fr):Fr→Prop
 | []=>True
 | (t,s)::l'=>lk l t=some s∧VR l l'
def VS (B:Bx):Bx→Prop
 | []=>True
 | (b,u,c)::B'=>jU B b=some (u,c)∧VS B B'
def VT (Γ:Gm):Gm→Prop
 | []=>True
 | (g,S)::Γ'=>lW Γ g=some S∧VT Γ Γ'
theorem M7 {l:Fr}:∀ {l':Fr},VR l l'→vo l' l
 | [],_,_,_,h=>by cases h
 | (t,s)::l',hs,q,u,h=>by
  unfold lk at h
  cases hb:Nat.beq t q with
  | true =>
   rw [hb] at h
   obtain rfl:=Nat.eq_of_beq_eq_true hb
   obtain rfl:=Option.some.inj h
   exact hs.1
  | false=>rw [hb] at h;exact M7 hs.2 q u h
theorem M8 {B:Bx}:∀ {B':Bx},VS B B'→∀ b x,jU B' b=some x→jU B b=some x
 | [],_,_,_,h=>by cases h
 | (t,s,c)::l',hs,q,u,h=>by
  unfold jU at h
  cases hb:Nat.beq t q with
  | true =>
   rw [hb] at h
   obtain rfl:=Nat.eq_of_beq_eq_true hb
   obtain rfl:=Option.some.inj h
   exact hs.1
  | false=>rw [hb] at h;exact M8 hs.2 q u h
theorem M9 {Γ:Gm}:∀ {Γ':Gm},VT Γ Γ'→∀ g S,lW Γ' g=some S→lW Γ g=some S
 | [],_,_,_,h=>by cases h
 | (t,s)::l',hs,q,u,h=>by
  unfold lW at h
  cases hb:Nat.beq t q with
  | true =>
   rw [hb] at h
   obtain rfl:=Nat.eq_of_beq_eq_true hb
   obtain rfl:=Option.some.inj h
   exact hs.1
  | false=>rw [hb] at h;exact M9 hs.2 q u h
theorem Kb {l':Fr} {B':Bx} {Γ':Gm} (hc:HV P Q n ds w0 cs l' B' Γ') (h1:VR l l') (h2:VS B B') (h3:VT Γ Γ'):HV P Q n ds w0 cs l B Γ:=fun α γ w hH =>
 Ch ((M7 h1).look α γ) (hc α γ w (hH.sub (M8 h2) (M9 h3)))
theorem Ka {c:Code} (l':Fr) (B':Bx) (Γ':Gm) (h1:HV P Q n ds w0 cs l' B' Γ') (h2:HV P Q n ds w0 cs l' B' Γ'→HV P Q n ds w0 (c::cs) l B Γ):HV P Q n ds w0 (c::cs) l B Γ:=h2 h1
theorem Fg {S:RS} (g:Nat) (S':RS) (hG:lW Γ g=some S.S) (hv:∀ w f,S.R w f→S'.R w f) (h:HV P Q n ds w0 cs l B ((g,S'.S)::Γ)):HV P Q n ds w0 cs l B Γ:=fun α γ w hH=>by
 refine h α γ w ⟨hH.ex,hH.box,hH.inj,hH.sc,fun q S2 hq=>?_⟩
 unfold lW at hq
 cases hb:Nat.beq g q with
 | true =>
  rw [hb] at hq
  obtain rfl:=Nat.eq_of_beq_eq_true hb
  obtain rfl:=Option.some.inj hq
  exact ⟨hv w _ (hH.r g hG),hH.noU⟩
 | false=>rw [hb] at hq;exact hH.fact q S2 hq
end
section
variable {P:Program} {T:TypeId} {x y:Operand} {w:World} {f:Nat→Value} {p:Int→Prop}
theorem XY (a b:Int) (X:World):Bn P .gtr T x y (.int .i64 a) (.int .i64 b) X = .ok (.bool (decide (a>b))) X:=by
 by_cases h:a>b
 · rw [decide_eq_true h];exact jR h X
 · rw [decide_eq_false h];exact bz h X
theorem aT (b:Bool) (X:World):(Op.unary .not (.bool b)).run P X = .ok (.bool (!b)) X:=by cases b<;>rfl
theorem eY {s:TypeId} {fields:Array Field} {k:Nat} {fd:Field} {m o:Nat} (hu:P.underlying s=some (.struct fields)) (hf:fields[k]?=some fd) (hs:(P.info? fd.type).map (·.size)=some (m+1)) (ho:fd.offset=o) (N q:Nat) (X:World):(Instr.fieldAt s (.pointer (some ⟨N,q,none⟩)) k).run P X = .ok (.pointer (some ⟨N,q+o,none⟩)) X:=by
 subst ho
 obtain ⟨inf,hi,hz⟩:=Option.map_eq_some_iff.1 hs
 simp [Instr.fieldAt,run_underlying hu,hf,Instr.sureAddr,fieldPlace,sizeOf,typeInfo,hi,hz,Result.andThen,Addr.add_mid]
end
end Go.Proofs.YtgcieamfidoaoaaGreatDoor.Rf
/- Conditions that a fact leaves open, facts under other names, and contracts of dyadic numbers by facts alone. -/
namespace Go.Proofs.YtgcieamfidoaoaaGreatDoor.Rf
open Go Go.RowKit Go.Proofs.YtgcieamfidoaoaaGreatDoor.Pl
set_option maxRecDepth 100000
section
variable {P:Program} {Q:Exit→Act→World→Prop} {n:Nat} {ds:List Deferred} {w0:World} {cs:List Code} {l:Fr} {B:Bx} {Γ:Gm} {L:List Oper}
theorem Fb {ord:Option (List Nat)} {l0:Fr} {B0:Bx} {Γ0:Gm} {tr:Tr} {d:Nat} {o:Oper} {rd:List Nat} {lr:Fr} (s:SV) (Pw:List Nat) (ho:nth L (oi ord tr.length)=some o) (hd:o.dst=some d) (hrd:DK L o.guard++Pw=rd) (hlr:kI (uX l0 tr) rd=lr) (hg:jT L lr o.guard=some true)
  (hk:∀ α γ,known (gI α γ lr) o.op=true) (he:∀ α γ X,(execOp (JQ (gI α γ lr)) o).run P X = .ok (.value (den α γ s)) X) (h:DA P Q n ds w0 cs L ord l0 B0 Γ0 (⟨some d,s,rd,[],[],none,none,none⟩::tr)):DA P Q n ds w0 cs L ord l0 B0 Γ0 tr :=
 BN s Pw [] ho hd hrd hlr hg rfl (fun α γ w _ ρ hρ=>by rw [jI hρ (hk α γ)];exact he α γ w) h
theorem wz {ord:Option (List Nat)} {l0:Fr} {B0:Bx} {Γ0:Gm} {tr:Tr} {d:Nat} {o:Oper} {rd:List Nat} {lr:Fr} {x:Operand} {u:UnOp} {t:TypeId} {a:Value} (v:Value) (ho:nth L (oi ord tr.length)=some o) (hop:o.op = .unOp u t x) (hd:o.dst=some d) (hrd:DK L o.guard++vG x=rd) (hlr:kI (uX l0 tr) rd=lr) (hg:jT L lr o.guard=some true)
  (hx:ev lr x=some (.v a)) (hr:∀ X,(Op.unary u a).run P X = .ok v X) (h:DA P Q n ds w0 cs L ord l0 B0 Γ0 (⟨some d,.v v,rd,[],[],none,none,none⟩::tr)):DA P Q n ds w0 cs L ord l0 B0 Γ0 tr :=
 BN (.v v) (vG x) [] ho hd hrd hlr hg rfl (fun α γ w _ ρ hρ=>by
  unfold execOp
  rw [hop]
  refine dI _ w ?_
  rw [hρ.dK (bT hx)]
  exact hr w) h
end
theorem xE {f:FuncId} {args:Array Value} {w:World} {α:Env} {γ:kR} {P:Program} {v:Value} (s:SV) (g:Nat) (hs:∀ α γ,den α γ s=v) (h:Calls P f args w (fun e w'=>e = .returned v∧Ex w w')) :
 Calls P f args w (fun e w'=>∃ F,(∀ k,bG (F k)=true)∧e = .returned (den α (upd γ g F) s)∧TR.R w' F∧Ex w w'):=Calls.mono h fun e w' ⟨he,hE⟩=>⟨fun _=>.bool false,fun _=>rfl,by rw [hs];exact he,trivial,hE⟩
theorem iW {w:World} {f:Nat→Value} {q:Rat} {L M:Nat} (h:(pI q L M).R w f):Zn w (.agg #[f 0,f 1]) q.num∧Un w (f 1) q.num.natAbs∧Un w (f 2) q.den∧Sz q.num L∧Sn q.den M:=by
 obtain ⟨A,c,B,b,e,u,t,z,y⟩:=h
 have e2:=Array.mk.inj (Value.agg.inj e)
 simp only [List.cons.injEq,and_true] at e2
 rw [e2.1,e2.2.1,e2.2.2]
 exact ⟨⟨A,c,rfl,u⟩,u,t,z,y⟩
theorem Qc {w:World} {f:Nat→Value} {z:Int} (h:(Wu z).R w f):Un w (f 1) z.natAbs:=by
 obtain ⟨A,c,e,u⟩:=h
 have e2:=Array.mk.inj (Value.agg.inj e)
 simp only [List.cons.injEq,and_true] at e2
 rw [e2.2];exact u
end Go.Proofs.YtgcieamfidoaoaaGreatDoor.Rf
/- States under other names; loops. -/
namespace Go.Proofs.YtgcieamfidoaoaaGreatDoor.Rf
open Go Go.RowKit Go.Proofs.YtgcieamfidoaoaaGreatDoor.Pl
set_option maxRecDepth 100000
def Bt:List (Nat × Nat)→Nat→Nat
 | [],n=>n
 | (a,b)::r,n=>match Nat.beq a n with
  | true=>b
  | false=>Bt r n
mutual
def VV (p q:List (Nat × Nat)):SV→SV
 | .v x=>.v x
 | .p b o=>.p (Bt p b) o
 | .c g k=>.c (Bt q g) k
 | .a l=>.a (Au p q l)
 | .t l=>.t (Au p q l)
 | .f fn fs cap=>.f fn (Au p q fs) (Au p q cap)
def Au (p q:List (Nat × Nat)):List SV→List SV
 | []=>[]
 | x::l=>VV p q x::Au p q l
end
mutual
theorem Jv {p q:List (Nat × Nat)} (α:Env) (γ:kR):∀ s:SV,den (fun b=>α (Bt p b)) (fun g=>γ (Bt q g)) s=den α γ (VV p q s)
 | .v x=>rfl
 | .p b o=>rfl
 | .c g k=>rfl
 | .a l=>by show Value.agg _=Value.agg _;rw [oH α γ l]
 | .t l=>by show Value.tuple _=Value.tuple _;rw [oH α γ l]
 | .f fn fs cap=>by show Value.func _ _ _=Value.func _ _ _;rw [oH α γ fs,oH α γ cap]
theorem oH {p q:List (Nat × Nat)} (α:Env) (γ:kR):∀ l:List SV,bZ (fun b=>α (Bt p b)) (fun g=>γ (Bt q g)) l=bZ α γ (Au p q l)
 | []=>rfl
 | x::l=>by show _::_=_::_;rw [Jv α γ x,oH α γ l]
end
def Jw (p q:List (Nat × Nat)) (l:Fr):Fr→Prop
 | []=>True
 | (t,s)::l'=>lk l t=some (VV p q s)∧Jw p q l l'
def Jy (p q:List (Nat × Nat)) (B:Bx):Bx→Prop
 | []=>True
 | (b,u,c)::B'=>jU B (Bt p b)=some (u,Au p q c)∧Jy p q B B'
def Jz (q:List (Nat × Nat)) (Γ:Gm):Gm→Prop
 | []=>True
 | (g,S)::Γ'=>lW Γ (Bt q g)=some S∧Jz q Γ Γ'
def Ta (k:Nat) (p:List (Nat × Nat)):Bx→Bool
 | []=>true
 | (b,_,_)::r=>!(Nat.beq (Bt p b) k)&&Ta k p r
def O8 (p:List (Nat × Nat)):Bx→Bool
 | []=>true
 | (b,_,_)::r=>Ta (Bt p b) p r&&O8 p r
theorem GH {k:Nat} {p:List (Nat × Nat)}:∀ {B:Bx} {b:Nat},Ta k p B=true→hasB B b→Bt p b≠k
 | [],_,_,⟨_,h⟩=>by cases h
 | (b',x)::r,b,h,⟨y,hy⟩=>by
  have h1:(!(Nat.beq (Bt p b') k)&&Ta k p r)=true:=h
  rw [Bool.and_eq_true,Bool.not_eq_true'] at h1
  unfold jU at hy
  cases e:Nat.beq b' b with
  | true =>
   obtain rfl:=Nat.eq_of_beq_eq_true e
   exact Nat.ne_of_beq_eq_false h1.1
  | false=>rw [e] at hy;exact GH h1.2 ⟨y,hy⟩
theorem Nc {p:List (Nat × Nat)}:∀ {B:Bx} {b c:Nat},O8 p B=true→hasB B b→hasB B c→Bt p b=Bt p c→b=c
 | [],_,_,_,⟨_,h⟩,_,_=>by cases h
 | (b',x)::r,b,c,h,⟨y,hy⟩,⟨z,hz⟩,e=>by
  have h1:(Ta (Bt p b') p r&&O8 p r)=true:=h
  rw [Bool.and_eq_true] at h1
  unfold jU at hy hz
  cases e1:Nat.beq b' b with
  | true =>
   obtain rfl:=Nat.eq_of_beq_eq_true e1
   cases e2:Nat.beq b' c with
   | true=>exact Nat.eq_of_beq_eq_true e2
   | false=>rw [e2] at hz;exact absurd e.symm (GH h1.1 ⟨z,hz⟩)
  | false =>
   rw [e1] at hy
   cases e2:Nat.beq b' c with
   | true =>
    obtain rfl:=Nat.eq_of_beq_eq_true e2
    exact absurd e (GH h1.1 ⟨y,hy⟩)
   | false=>rw [e2] at hz;exact Nc h1.2 ⟨y,hy⟩ ⟨z,hz⟩ e
theorem JA {p q:List (Nat × Nat)} {l:Fr}:∀ {l':Fr},Jw p q l l'→∀ t s,lk l' t=some s→lk l t=some (VV p q s)
 | [],_,_,_,h=>by cases h
 | (t,s)::l',hs,r,u,h=>by
  unfold lk at h
  cases hb:Nat.beq t r with
  | true =>
   rw [hb] at h
   obtain rfl:=Nat.eq_of_beq_eq_true hb
   obtain rfl:=Option.some.inj h
   exact hs.1
  | false=>rw [hb] at h;exact JA hs.2 r u h
theorem uz {p q:List (Nat × Nat)} {B:Bx}:∀ {B':Bx},Jy p q B B'→∀ b T c,jU B' b=some (T,c)→jU B (Bt p b)=some (T,Au p q c)
 | [],_,_,_,_,h=>by cases h
 | (b',u,c')::B',hs,b,T,c,h=>by
  unfold jU at h
  cases hb:Nat.beq b' b with
  | true =>
   rw [hb] at h
   obtain rfl:=Nat.eq_of_beq_eq_true hb
   cases h
   exact hs.1
  | false=>rw [hb] at h;exact uz hs.2 b T c h
theorem JB {q:List (Nat × Nat)} {Γ:Gm}:∀ {Γ':Gm},Jz q Γ Γ'→∀ g S,lW Γ' g=some S→lW Γ (Bt q g)=some S
 | [],_,_,_,h=>by cases h
 | (t,s)::l',hs,r,u,h=>by
  unfold lW at h
  cases hb:Nat.beq t r with
  | true =>
   rw [hb] at h
   obtain rfl:=Nat.eq_of_beq_eq_true hb
   obtain rfl:=Option.some.inj h
   exact hs.1
  | false=>rw [hb] at h;exact JB hs.2 r u h
theorem Holds.ren {w0:World} {B B':Bx} {Γ Γ':Gm} {α:Env} {γ:kR} {w:World} {p q:List (Nat × Nat)} (h:Holds w0 B Γ α γ w) (h2:Jy p q B B') (h3:Jz q Γ Γ') (h4:O8 p B'=true) :
  Holds w0 B' Γ' (fun b=>α (Bt p b)) (fun g=>γ (Bt q g)) w:=by
 have hown:∀ k,own B' (fun b=>α (Bt p b)) k→own B α k:=fun k ⟨b,⟨⟨T,c⟩,hb⟩,e⟩=>⟨Bt p b,⟨_,uz h2 b T c hb⟩,e⟩
 refine ⟨h.ex,fun b T cs hb=>?_,fun b c hb hc e=>?_,fun g k=>h.sc _ _,fun g S hg=>?_⟩
 · rw [oH];exact h.box _ T _ (uz h2 b T cs hb)
 · obtain ⟨⟨T,x⟩,hx⟩:=hb
   obtain ⟨⟨U,y⟩,hy⟩:=hc
   exact Nc h4 ⟨_,hx⟩ ⟨_,hy⟩ (h.inj _ _ ⟨_,uz h2 b T x hx⟩ ⟨_,uz h2 c U y hy⟩ e)
 · exact S.grow (h.fact _ S (JB h3 g S hg)) (fun k hk=>.inl (hown k hk)) fun k hk=>(h.mE (hown k hk)).2.2
theorem JC {α:Env} {γ:kR} {l l':Fr} {p q:List (Nat × Nat)} (h:Jw p q l l') {t:Nat} {v:Value} (hv:Go.Proofs.YtgcieamfidoaoaaGreatDoor.Pl.look (gI (fun b=>α (Bt p b)) (fun g=>γ (Bt q g)) l') t=some v):Go.Proofs.YtgcieamfidoaoaaGreatDoor.Pl.look (gI α γ l) t=some v:=by
 rw [fJ] at hv ⊢
 cases e:lk l' t with
 | none=>rw [e] at hv;cases hv
 | some s =>
  rw [e] at hv
  rw [JA h t s e,← hv]
  exact congrArg some (Jv α γ s).symm
section
variable {P:Program} {Q:Exit→Act→World→Prop} {n:Nat} {ds:List Deferred} {w0:World} {cs:List Code} {l l':Fr} {B B':Bx} {Γ Γ':Gm}
theorem jJ (p q:List (Nat × Nat)) (hc:HV P Q n ds w0 cs l' B' Γ') (h1:Jw p q l l') (h2:Jy p q B B') (h3:Jz q Γ Γ') (h4:O8 p B'=true):HV P Q n ds w0 cs l B Γ:=fun α γ w hH =>
 Ch (fun t v hv=>JC h1 hv) (hc _ _ w (hH.ren h2 h3 h4))
variable {X:Type} (lf:X→Fr) (Bf:X→Bx) (Γf:X→Gm) (μ:X→Nat) (pr:X→Prop)
def Tc (w0:World) (k:Nat) (l:List (Nat × Value)) (w:World):Prop:=∃ x,μ x=k∧pr x∧∃ α γ,Holds w0 (Bf x) (Γf x) α γ w∧l=gI α γ (lf x)
theorem Uq {c:Code} (x0:X) (hp:pr x0) (hs:∀ x,pr x→HV P (Exit.then (fun a' w'=>∃ k' l',k'<μ x∧Ag n ds a' l'∧Tc lf Bf Γf μ pr w0 k' l' w') (Ks P Q cs)) n ds w0 [c] (lf x) (Bf x) (Γf x)) :
  HV P Q n ds w0 (.loop c::cs) (lf x0) (Bf x0) (Γf x0):=fun α γ w hH=>by
 refine tN (Tc lf Bf Γf μ pr w0) (μ x0) ⟨x0,rfl,hp,α,γ,hH,rfl⟩ ?_
 rintro k l w ⟨x,rfl,hx,α,γ,hH,rfl⟩
 exact hs x hx α γ w hH
theorem Ij {k:Nat} {Q':Exit→Act→World→Prop} (x':X) (hk:μ x'<k) (hp:pr x') (p q:List (Nat × Nat)) (h1:Jw p q l (lf x')) (h2:Jy p q B (Bf x')) (h3:Jz q Γ (Γf x')) (h4:O8 p (Bf x')=true) :
  HV P (Exit.then (fun a' w'=>∃ k' l',k'<k∧Ag n ds a' l'∧Tc lf Bf Γf μ pr w0 k' l' w') Q') n ds w0 [] l B Γ:=fun α γ w hH a ha =>
 ⟨μ x',_,hk,ha.less (fun t v hv=>JC h1 hv),x',rfl,hp,_,_,hH.ren h2 h3 h4,rfl⟩
end
end Go.Proofs.YtgcieamfidoaoaaGreatDoor.Rf
/- Calls that tell of blocks that are not ours; the larger of two; a dyadic number from its parts. -/
namespace Go.Proofs.YtgcieamfidoaoaaGreatDoor.Rf
open Go Go.RowKit Go.Proofs.YtgcieamfidoaoaaGreatDoor.Pl
set_option maxRecDepth 100000
section
variable {P:Program} {Q:Exit→Act→World→Prop} {n:Nat} {ds:List Deferred} {w0:World} {cs:List Code} {l:Fr} {B:Bx} {Γ:Gm} {L:List Oper}
theorem aec {ord:Option (List Nat)} {l0:Fr} {B0:Bx} {Γ0:Gm} {tr:Tr} {d:Nat} {o:Oper} {x y:Operand} {t:Array TypeId} {rd:List Nat} {lr:Fr} {k:IntKind} {a b:Int} (ho:nth L (oi ord tr.length)=some o) (hop:o.op = .call { callee:=.builtin .max,args:=#[x,y],argTypes:=t }) (hd:o.dst=some d) (hrd:DK L o.guard++(vG x++vG y)=rd) (hlr:kI (uX l0 tr) rd=lr) (hg:jT L lr o.guard=some true)
  (hx:ev lr x=some (.v (.int k a))) (hy:ev lr y=some (.v (.int k b))) (h:DA P Q n ds w0 cs L ord l0 B0 Γ0 (⟨some d,.v (.int k (max a b)),rd,[],[],none,none,none⟩::tr)):DA P Q n ds w0 cs L ord l0 B0 Γ0 tr :=
 BN (.v (.int k (max a b))) (vG x++vG y) [] ho hd hrd hlr hg rfl (fun α γ w _ ρ hρ=>by
  unfold execOp;rw [hop]
  refine dI (Builtin.max_ _ _ (#[x,y].map ρ)) w ?_
  have e1:ρ x = .int k a:=hρ.dK (bT (α:=α) (γ:=γ) hx)
  have e2:ρ y = .int k b:=hρ.dK (bT (α:=α) (γ:=γ) hy)
  rw [show #[x,y].map ρ=#[.int k a,.int k b] from by simp [e1,e2]]
  have e:max a b=if b>a then b else a:=by split<;>omega
  rw [show den α γ (.v (.int k (max a b))) = .int k (max a b) from rfl]
  rw [e]
  exact run_max_int2 _ _ _ _ _ _ _) h
theorem ZJ {ord:Option (List Nat)} {l0:Fr} {B0:Bx} {Γ0:Gm} {tr:Tr} {d:Nat} {o:Oper} {rd:List Nat} {lr:Fr} {Γr:Gm} (Pw gs:List Nat) (g:Nat) (S:Spec) (res:SV)
  (ho:nth L (oi ord tr.length)=some o) (hd:o.dst=some d) (hrd:DK L o.guard++Pw=rd) (hlr:kI (uX l0 tr) rd=lr) (hg:jT L lr o.guard=some true) (hΓ:qj (E5 Γ0 tr) gs=Γr)
  (BM:∀ α γ w,Holds w0 [] Γr α γ w→∃ F w',(∀ k,bG (F k)=true)∧(∀ ρ,Cons ρ (gI α γ lr)→(execOp ρ o).run P w = .ok (.value (den α (upd γ g F) res)) w')∧(∀ X:Nat→Prop,(∀ k,X k→k<w.heap.size∧Ei w k)→S.P X w' F)∧Ex w w')
  (h:DA P Q n ds w0 cs L ord l0 B0 Γ0 (⟨some d,res,rd,[],gs,none,none,some (g,S)⟩::tr)):DA P Q n ds w0 cs L ord l0 B0 Γ0 tr:=fun ha=>h (by
 subst hΓ hlr
 exact ⟨.eff o d g S res rd gs ho hd hg BM,ha⟩)
theorem mH {r:nu} {i mm d:Nat} {o:Oper} {e:TypeId} {m:Nat} (vs:List Value) (g:Nat) (S:RS)
  (ho:nth L i=some o) (hd:o.dst=some d) (hg:jT L l o.guard=some true) (hk:∀ α γ,known (gI α γ l) o.op=true)
  (he:∀ α γ X,(execOp (JQ (gI α γ l)) o).run P X = .ok (.value (.slice (some ⟨X.heap.size,0,none⟩) m m)) (X.alloc (.cells vs.toArray e)))
  (hfr:fresh g l B Γ=true) (hR:∀ N w,Cb w N e vs→S.R w (wo [.slice (some ⟨N,0,none⟩) m m]))
  (h:HA P Q n ds w0 cs L r ((d,.c g 0)::l) B ((g,S.S)::Γ)):HA P Q n ds w0 cs L ((false,i,mm)::r) l B Γ:=fun α γ w hH=>by
 obtain ⟨h1,h2,h3⟩:=mM hfr
 have DF:=hH.ext (Ex.alloc w (.cells vs.toArray e))
 have hA:=h α (upd γ g (wo [.slice (some ⟨w.heap.size,0,none⟩) m m])) _ (DF.add g S.S _ h2 (eG rfl) ⟨hR _ _ (Cb.new w e vs),DF.noU⟩ h3)
 rw [qm,mO l h1,show den α (upd γ g (wo [.slice (some ⟨w.heap.size,0,none⟩) m m])) (.c g 0)=upd γ g (wo [.slice (some ⟨w.heap.size,0,none⟩) m m]) g 0 from rfl,upd_same] at hA
 exact kP ho hd (gy hg α γ) (fun ρ hρ=>by rw [jI hρ (hk α γ)];exact he α γ w) trivial hA
end
def VU (T:TypeId) (n:Nat) (cs:List Value):Spec where
 P X w f:=∃ N,f 0 = .slice (some ⟨N,0,none⟩) n n∧¬ X N∧Cb w N T cs
 keep:=fun ⟨N,h1,h2,h3⟩ _ hk _ _=>⟨N,h1,h2,(hk N (Cb.lt h3) h2).trans h3⟩
 grow:=fun ⟨N,h1,h2,h3⟩ hY _=>⟨N,h1,fun h=>(hY N h).elim h2 (fun h9=>by have:=Cb.lt h3;omega),h3⟩
section
variable {P:Program} {Q:Exit→Act→World→Prop} {n:Nat} {ds:List Deferred} {w0:World} {cs:List Code} {l:Fr} {B:Bx} {Γ:Gm} {L:List Oper}
theorem aa6 {ord:Option (List Nat)} {l0:Fr} {B0:Bx} {Γ0:Gm} {tr:Tr} {d:Nat} {o:Oper} {rd:List Nat} {lr:Fr} {e:TypeId} {m:Nat} (vs:List Value) (g:Nat)
  (ho:nth L (oi ord tr.length)=some o) (hd:o.dst=some d) (Pw:List Nat) (hrd:DK L o.guard++Pw=rd) (hlr:kI (uX l0 tr) rd=lr) (hg:jT L lr o.guard=some true) (hk:∀ α γ,known (gI α γ lr) o.op=true)
  (he:∀ α γ X,(execOp (JQ (gI α γ lr)) o).run P X = .ok (.value (.slice (some ⟨X.heap.size,0,none⟩) m m)) (X.alloc (.cells vs.toArray e)))
  (h:DA P Q n ds w0 cs L ord l0 B0 Γ0 (⟨some d,.c g 0,rd,[],[],none,none,some (g,VU e m vs)⟩::tr)):DA P Q n ds w0 cs L ord l0 B0 Γ0 tr :=
 ZJ Pw [] g (VU e m vs) (.c g 0) ho hd hrd hlr hg rfl (fun α γ w _=>⟨wo [.slice (some ⟨w.heap.size,0,none⟩) m m],w.alloc (.cells vs.toArray e),eG rfl,fun ρ hρ=>by
  rw [jI hρ (hk α γ),he α γ w,show den α (upd γ g (wo [.slice (some ⟨w.heap.size,0,none⟩) m m])) (.c g 0)=upd γ g (wo [.slice (some ⟨w.heap.size,0,none⟩) m m]) g 0 from rfl,upd_same]
  rfl,fun X hX=>⟨w.heap.size,rfl,fun h9=>by have:=(hX _ h9).1;omega,Cb.new w e vs⟩,Ex.alloc w _⟩) h
theorem Yo {r:nu} {i mm d:Nat} {o:Oper} {e:TypeId} {m:Nat} (vs:List Value) (g:Nat)
  (ho:nth L i=some o) (hd:o.dst=some d) (hg:jT L l o.guard=some true) (hk:∀ α γ,known (gI α γ l) o.op=true)
  (he:∀ α γ X,(execOp (JQ (gI α γ l)) o).run P X = .ok (.value (.slice (some ⟨X.heap.size,0,none⟩) m m)) (X.alloc (.cells vs.toArray e)))
  (hfr:fresh g l B Γ=true) (h:HA P Q n ds w0 cs L r ((d,.c g 0)::l) B ((g,VU e m vs)::Γ)):HA P Q n ds w0 cs L ((false,i,mm)::r) l B Γ:=fun α γ w hH=>by
 obtain ⟨h1,h2,h3⟩:=mM hfr
 have DF:=hH.ext (Ex.alloc w (.cells vs.toArray e))
 have hA:=h α (upd γ g (wo [.slice (some ⟨w.heap.size,0,none⟩) m m])) _ (DF.add g (VU e m vs) _ h2 (eG rfl) ⟨w.heap.size,rfl,fun h9=>by have:=(hH.mE h9).1;omega,Cb.new w e vs⟩ h3)
 rw [qm,mO l h1,show den α (upd γ g (wo [.slice (some ⟨w.heap.size,0,none⟩) m m])) (.c g 0)=upd γ g (wo [.slice (some ⟨w.heap.size,0,none⟩) m m]) g 0 from rfl,upd_same] at hA
 exact kP ho hd (gy hg α γ) (fun ρ hρ=>by rw [jI hρ (hk α γ)];exact he α γ w) trivial hA
end
end Go.Proofs.YtgcieamfidoaoaaGreatDoor.Rf
