/- Base. -/
import Derived.Test.YtgcieamfidoaoaaGreatDoorGba
set_option linter.all false
set_option maxHeartbeats 8000000
set_option maxRecDepth 100000
namespace Go.Proofs.YtgcieamfidoaoaaGreatDoor
namespace Rf
open Go Go.RowKit Pl
section
variable {P:Program} {Q:Exit→Act→World→Prop} {n:Nat} {ds:List Deferred} {cs:List Code} {l:List (Nat × Value)} {w:World}
def SG (P:Program) (Q:Exit→Act→World→Prop) (n:Nat) (ds:List Deferred) (cs:List Code) (c:Code):Nat→List (Nat × Value)→World→Prop
 | 0,l,w=>Pl.V P (Exit.then (fun _ _=>False) (Ks P Q cs)) n ds [c] l w
 | k+1,l,w=>Pl.V P (Exit.then (fun a' w'=>∃ l',Ag n ds a' l'∧SG P Q n ds cs c k l' w') (Ks P Q cs)) n ds [c] l w
theorem XI {c:Code} (k:Nat) (h:SG P Q n ds cs c k l w):Pl.V P Q n ds (.loop c::cs) l w:=by
 refine xE (fun k l w=>SG P Q n ds cs c k l w) k h fun k l w hU=>?_;cases k with
 | zero =>
  intro a ha;refine Code.wp_mono (fun e a w hq=>?_) (hU a ha);cases e with
  | normal=>exact hq.elim
  | _=>exact hq
 | succ k =>
  intro a ha;refine Code.wp_mono (fun e a w hq=>?_) (hU a ha);cases e with
  | normal=>obtain ⟨l',ha',h'⟩:=hq;exact ⟨k,l',Nat.lt_succ_self k,ha',h'⟩
  | _=>exact hq
theorem adB {c:Code} {k:Nat} (h:Pl.V P (Exit.then (fun a' w'=>∃ l',Ag n ds a' l'∧SG P Q n ds cs c k l' w') (Ks P Q cs)) n ds [c] l w):SG P Q n ds cs c (k+1) l w:=h
theorem XJ {c:Code} (h:Pl.V P (Exit.then (fun _ _=>False) (Ks P Q cs)) n ds [c] l w):SG P Q n ds cs c 0 l w:=h
theorem adC {c:Code} {k:Nat} {Q':Exit→Act→World→Prop} (h:SG P Q n ds cs c k l w):Pl.V P (Exit.then (fun a' w'=>∃ l',Ag n ds a' l'∧SG P Q n ds cs c k l' w') Q') n ds [] l w:=fun a ha=>⟨l,ha,h⟩
end
section
variable {P:Program} {Q:Exit→Act→World→Prop} {n:Nat} {ds:List Deferred} {w0:World} {cs:List Code} {l:Fr} {B:Bx} {Γ:Gm} {L:List Oper}
theorem dF {r:qE} {i m d:Nat} {o:Oper} {x:Operand} {t e:TypeId} {g k:Nat} {S:RS} (N:Nat) (hu:P.underlying t=some (.slice e)) (ho:nth L i=some o) (hop:o.op = .call { callee:=.builtin .len,args:=#[x],argTypes:=#[t] }) (hd:o.dst=some d) (hg:lJ L l o.guard=some true) (hx:ev l x=some (.c g k)) (hG:lZ Γ g=some S.S) (hv:∀ w f,S.R w f→∃ A c,f k = .slice A N c) (h:HA P Q n ds w0 cs L r ((d,.v (.int .i64 ((N:Nat):Int)))::l) B Γ):HA P Q n ds w0 cs L ((false,i,m)::r) l B Γ:=fun α γ w hH=>by obtain ⟨A,c,e⟩:=hv w _ (hH.r g hG);exact Ul (A:=A) (c:=c) hu trivial ho hop hd (jc hg α γ) (by rw [dJ hx];exact congrArg some e) (h α γ w hH)
theorem agJ {r:qE} {i m d:Nat} {o:Oper} {x:Operand} {u:UnOp} {t:TypeId} {a:Value} (v:Value) (ho:nth L i=some o) (hop:o.op = .unOp u t x) (hd:o.dst=some d) (hg:lJ L l o.guard=some true) (hx:ev l x=some (.v a)) (hr:∀ X,(Op.unary u a).run P X = .ok v X) (h:HA P Q n ds w0 cs L r ((d,.v v)::l) B Γ):HA P Q n ds w0 cs L ((false,i,m)::r) l B Γ:=uS (.v v) ho hd hg (fun α γ w _ ρ hρ=>by unfold execOp;rw [hop];refine fI _ w ?_;rw [hρ.fO (dJ hx)];exact hr w) h
def HU (P:Program) (Q:Exit→Act→World→Prop) (n:Nat) (ds:List Deferred) (w0:World) (cs:List Code) (c:Code) (k:Nat) (l:Fr) (B:Bx) (Γ:Gm):Prop:=∀ α γ w,Holds w0 B Γ α γ w→SG P Q n ds cs c k (iI α γ l) w
theorem II {c:Code} (k:Nat) (h:HU P Q n ds w0 cs c k l B Γ):HV P Q n ds w0 (.loop c::cs) l B Γ:=fun α γ w hH=>XI k (h α γ w hH)
theorem LJ {c:Code} {k:Nat} (h:HV P (Exit.then (fun a' w'=>∃ l',Ag n ds a' l'∧SG P Q n ds cs c k l' w') (Ks P Q cs)) n ds w0 [c] l B Γ):HU P Q n ds w0 cs c (k+1) l B Γ:=fun α γ w hH=>adB (h α γ w hH)
theorem Qh {c:Code} (h:HV P (Exit.then (fun _ _=>False) (Ks P Q cs)) n ds w0 [c] l B Γ):HU P Q n ds w0 cs c 0 l B Γ:=fun α γ w hH=>XJ (h α γ w hH)
theorem Ah {c:Code} {k:Nat} {Q':Exit→Act→World→Prop} (h:HU P Q n ds w0 cs c k l B Γ):HV P (Exit.then (fun a' w'=>∃ l',Ag n ds a' l'∧SG P Q n ds cs c k l' w') Q') n ds w0 [] l B Γ:=fun α γ w hH=>adC (h α γ w hH)
def aar (l:Fr):Fr→Prop
 | []=>True
 | (t,s)::l'=>lk l t=some s∧aar l l'
def aas (B:Bx):Bx→Prop
 | []=>True
 | (b,u,c)::B'=>kP B b=some (u,c)∧aas B B'
def aat (Γ:Gm):Gm→Prop
 | []=>True
 | (g,S)::Γ'=>lZ Γ g=some S∧aat Γ Γ'
theorem Rc {l:Fr}:∀ {l':Fr},aar l l'→vX l' l
 | [],_,_,_,h=>by cases h
 | (t,s)::l',hs,q,u,h=>by
  unfold lk at h;cases hb:Nat.beq t q with
  | true =>rw [hb] at h;obtain rfl:=Nat.eq_of_beq_eq_true hb;obtain rfl:=Option.some.inj h;exact hs.1
  | false=>rw [hb] at h;exact Rc hs.2 q u h
theorem Re {B:Bx}:∀ {B':Bx},aas B B'→∀ b x,kP B' b=some x→kP B b=some x
 | [],_,_,_,h=>by cases h
 | (t,s,c)::l',hs,q,u,h=>by
  unfold kP at h;cases hb:Nat.beq t q with
  | true =>rw [hb] at h;obtain rfl:=Nat.eq_of_beq_eq_true hb;obtain rfl:=Option.some.inj h;exact hs.1
  | false=>rw [hb] at h;exact Re hs.2 q u h
theorem Rh {Γ:Gm}:∀ {Γ':Gm},aat Γ Γ'→∀ g S,lZ Γ' g=some S→lZ Γ g=some S
 | [],_,_,_,h=>by cases h
 | (t,s)::l',hs,q,u,h=>by
  unfold lZ at h;cases hb:Nat.beq t q with
  | true =>rw [hb] at h;obtain rfl:=Nat.eq_of_beq_eq_true hb;obtain rfl:=Option.some.inj h;exact hs.1
  | false=>rw [hb] at h;exact Rh hs.2 q u h
theorem Oh {l':Fr} {B':Bx} {Γ':Gm} (hc:HV P Q n ds w0 cs l' B' Γ') (h1:aar l l') (h2:aas B B') (h3:aat Γ Γ'):HV P Q n ds w0 cs l B Γ:=fun α γ w hH =>
 Cn ((Rc h1).look α γ) (hc α γ w (hH.sub (Re h2) (Rh h3)))
theorem Og {c:Code} (l':Fr) (B':Bx) (Γ':Gm) (h1:HV P Q n ds w0 cs l' B' Γ') (h2:HV P Q n ds w0 cs l' B' Γ'→HV P Q n ds w0 (c::cs) l B Γ):HV P Q n ds w0 (c::cs) l B Γ:=h2 h1
theorem gW {S:RS} (g:Nat) (S':RS) (hG:lZ Γ g=some S.S) (hv:∀ w f,S.R w f→S'.R w f) (h:HV P Q n ds w0 cs l B ((g,S'.S)::Γ)):HV P Q n ds w0 cs l B Γ:=fun α γ w hH=>by
 refine h α γ w ⟨hH.ex,hH.box,hH.inj,hH.sc,fun q S2 hq=>?_⟩;unfold lZ at hq;cases hb:Nat.beq g q with
 | true =>rw [hb] at hq;obtain rfl:=Nat.eq_of_beq_eq_true hb;obtain rfl:=Option.some.inj hq;exact ⟨hv w _ (hH.r g hG),hH.noU⟩
 | false=>rw [hb] at hq;exact hH.fact q S2 hq
end
section
variable {P:Program} {T:TypeId} {x y:Operand} {w:World} {f:Nat→Value} {p:Int→Prop}
theorem Uv (a b:Int) (X:World):Bn P .gtr T x y (.int .i64 a) (.int .i64 b) X = .ok (.bool (decide (a>b))) X:=by
 by_cases h:a>b
 · rw [decide_eq_true h];exact iF h X
 · rw [decide_eq_false h];exact aY h X
theorem aN (b:Bool) (X:World):(Op.unary .not (.bool b)).run P X = .ok (.bool (!b)) X:=by cases b<;>rfl
theorem gP {s:TypeId} {fields:Array Field} {k:Nat} {fd:Field} {m o:Nat} (hu:P.underlying s=some (.struct fields)) (hf:fields[k]?=some fd) (hs:(P.info? fd.type).map (·.size)=some (m+1)) (ho:fd.offset=o) (N q:Nat) (X:World):(Instr.fieldAt s (.pointer (some ⟨N,q,none⟩)) k).run P X = .ok (.pointer (some ⟨N,q+o,none⟩)) X:=by subst ho;obtain ⟨inf,hi,hz⟩:=Option.map_eq_some_iff.1 hs;simp [Instr.fieldAt,run_underlying hu,hf,Instr.sureAddr,fieldPlace,sizeOf,typeInfo,hi,hz,Result.andThen,Addr.add_mid]
end
section
variable {P:Program} {Q:Exit→Act→World→Prop} {n:Nat} {ds:List Deferred} {w0:World} {cs:List Code} {l:Fr} {B:Bx} {Γ:Gm} {L:List Oper}
theorem JB {ord:Option (List Nat)} {l0:Fr} {B0:Bx} {Γ0:Gm} {tr:Tr} {d:Nat} {o:Oper} {rd:List Nat} {lr:Fr} (s:SV) (P9:List Nat) (ho:nth L (oi ord tr.length)=some o) (hd:o.dst=some d) (hrd:Di L o.guard++P9=rd) (hlr:kX (vS l0 tr) rd=lr) (hg:lJ L lr o.guard=some true) (hk:∀ α γ,known (iI α γ lr) o.op=true) (he:∀ α γ X,(execOp (LC (iI α γ lr)) o).run P X = .ok (.value (den α γ s)) X) (h:DA P Q n ds w0 cs L ord l0 B0 Γ0 (⟨some d,s,rd,[],[],none,none,none⟩::tr)):DA P Q n ds w0 cs L ord l0 B0 Γ0 tr :=
 EJ s P9 [] ho hd hrd hlr hg rfl (fun α γ w _ ρ hρ=>by rw [ku hρ (hk α γ)];exact he α γ w) h
theorem dY {ord:Option (List Nat)} {l0:Fr} {B0:Bx} {Γ0:Gm} {tr:Tr} {d:Nat} {o:Oper} {rd:List Nat} {lr:Fr} {x:Operand} {u:UnOp} {t:TypeId} {a:Value} (v:Value) (ho:nth L (oi ord tr.length)=some o) (hop:o.op = .unOp u t x) (hd:o.dst=some d) (hrd:Di L o.guard++sD x=rd) (hlr:kX (vS l0 tr) rd=lr) (hg:lJ L lr o.guard=some true) (hx:ev lr x=some (.v a)) (hr:∀ X,(Op.unary u a).run P X = .ok v X) (h:DA P Q n ds w0 cs L ord l0 B0 Γ0 (⟨some d,.v v,rd,[],[],none,none,none⟩::tr)):DA P Q n ds w0 cs L ord l0 B0 Γ0 tr :=
 EJ (.v v) (sD x) [] ho hd hrd hlr hg rfl (fun α γ w _ ρ hρ=>by
  unfold execOp;rw [hop];refine fI _ w ?_;rw [hρ.fO (dJ hx)];exact hr w) h
end
theorem iY {f:FuncId} {args:Array Value} {w:World} {α:Env} {γ:l7} {P:Program} {v:Value} (s:SV) (g:Nat) (hs:∀ α γ,den α γ s=v) (h:Calls P f args w (fun e w'=>e = .returned v∧aS w w')) :Calls P f args w (fun e w'=>∃ F,(∀ k,bU (F k)=true)∧e = .returned (den α (upd γ g F) s)∧TR.R w' F∧aS w w'):=Calls.mono h fun e w' ⟨he,hE⟩=>⟨fun _=>.bool false,fun _=>rfl,by rw [hs];exact he,trivial,hE⟩
theorem bL {w:World} {f:Nat→Value} {q:Rat} {L M:Nat} (h:(fG q L M).R w f):Zn w (.agg #[f 0,f 1]) q.num∧Un w (f 1) q.num.natAbs∧Un w (f 2) q.den∧Sz q.num L∧Sn q.den M:=by obtain ⟨A,c,B,b,e,u,t,z,y⟩:=h;have e2:=Array.mk.inj (Value.agg.inj e);simp only [List.cons.injEq,and_true] at e2;rw [e2.1,e2.2.1,e2.2.2];exact ⟨⟨A,c,rfl,u⟩,u,t,z,y⟩
theorem EL {w:World} {f:Nat→Value} {z:Int} (h:(P7 z).R w f):Un w (f 1) z.natAbs:=by obtain ⟨A,c,e,u⟩:=h;have e2:=Array.mk.inj (Value.agg.inj e);simp only [List.cons.injEq,and_true] at e2;rw [e2.2];exact u
def Ey:List (Nat × Nat)→Nat→Nat
 | [],n=>n
 | (a,b)::r,n=>match Nat.beq a n with
  | true=>b
  | false=>Ey r n
mutual
def aav (p q:List (Nat × Nat)):SV→SV
 | .v x=>.v x
 | .p b o=>.p (Ey p b) o
 | .c g k=>.c (Ey q g) k
 | .a l=>.a (DN p q l)
 | .t l=>.t (DN p q l)
 | .f fn fs cap=>.f fn (DN p q fs) (DN p q cap)
def DN (p q:List (Nat × Nat)):List SV→List SV
 | []=>[]
 | x::l=>aav p q x::DN p q l
end
mutual
theorem Nu {p q:List (Nat × Nat)} (α:Env) (γ:l7):∀ s:SV,den (fun b=>α (Ey p b)) (fun g=>γ (Ey q g)) s=den α γ (aav p q s)
 | .v x=>rfl
 | .p b o=>rfl
 | .c g k=>rfl
 | .a l=>by show Value.agg _=Value.agg _;rw [qR α γ l]
 | .t l=>by show Value.tuple _=Value.tuple _;rw [qR α γ l]
 | .f fn fs cap=>by show Value.func _ _ _=Value.func _ _ _;rw [qR α γ fs,qR α γ cap]
theorem qR {p q:List (Nat × Nat)} (α:Env) (γ:l7):∀ l:List SV,dU (fun b=>α (Ey p b)) (fun g=>γ (Ey q g)) l=dU α γ (DN p q l)
 | []=>rfl
 | x::l=>by show _::_=_::_;rw [Nu α γ x,qR α γ l]
end
def Nv (p q:List (Nat × Nat)) (l:Fr):Fr→Prop
 | []=>True
 | (t,s)::l'=>lk l t=some (aav p q s)∧Nv p q l l'
def Nw (p q:List (Nat × Nat)) (B:Bx):Bx→Prop
 | []=>True
 | (b,u,c)::B'=>kP B (Ey p b)=some (u,DN p q c)∧Nw p q B B'
def Ny (q:List (Nat × Nat)) (Γ:Gm):Gm→Prop
 | []=>True
 | (g,S)::Γ'=>lZ Γ (Ey q g)=some S∧Ny q Γ Γ'
def XL (k:Nat) (p:List (Nat × Nat)):Bx→Bool
 | []=>true
 | (b,_,_)::r=>!(Nat.beq (Ey p b) k)&&XL k p r
def Tp (p:List (Nat × Nat)):Bx→Bool
 | []=>true
 | (b,_,_)::r=>XL (Ey p b) p r&&Tp p r
theorem KR {k:Nat} {p:List (Nat × Nat)}:∀ {B:Bx} {b:Nat},XL k p B=true→hasB B b→Ey p b≠k
 | [],_,_,⟨_,h⟩=>by cases h
 | (b',x)::r,b,h,⟨y,hy⟩=>by
  have h1:(!(Nat.beq (Ey p b') k)&&XL k p r)=true:=h;rw [Bool.and_eq_true,Bool.not_eq_true'] at h1;unfold kP at hy;cases e:Nat.beq b' b with
  | true =>obtain rfl:=Nat.eq_of_beq_eq_true e;exact Nat.ne_of_beq_eq_false h1.1
  | false=>rw [e] at hy;exact KR h1.2 ⟨y,hy⟩
theorem Ri {p:List (Nat × Nat)}:∀ {B:Bx} {b c:Nat},Tp p B=true→hasB B b→hasB B c→Ey p b=Ey p c→b=c
 | [],_,_,_,⟨_,h⟩,_,_=>by cases h
 | (b',x)::r,b,c,h,⟨y,hy⟩,⟨z,hz⟩,e=>by
  have h1:(XL (Ey p b') p r&&Tp p r)=true:=h;rw [Bool.and_eq_true] at h1;unfold kP at hy hz;cases e1:Nat.beq b' b with
  | true =>
   obtain rfl:=Nat.eq_of_beq_eq_true e1;cases e2:Nat.beq b' c with
   | true=>exact Nat.eq_of_beq_eq_true e2
   | false=>rw [e2] at hz;exact absurd e.symm (KR h1.1 ⟨z,hz⟩)
  | false =>
   rw [e1] at hy;cases e2:Nat.beq b' c with
   | true =>obtain rfl:=Nat.eq_of_beq_eq_true e2;exact absurd e (KR h1.1 ⟨y,hy⟩)
   | false=>rw [e2] at hz;exact Ri h1.2 ⟨y,hy⟩ ⟨z,hz⟩ e
theorem Nz {p q:List (Nat × Nat)} {l:Fr}:∀ {l':Fr},Nv p q l l'→∀ t s,lk l' t=some s→lk l t=some (aav p q s)
 | [],_,_,_,h=>by cases h
 | (t,s)::l',hs,r,u,h=>by
  unfold lk at h;cases hb:Nat.beq t r with
  | true =>rw [hb] at h;obtain rfl:=Nat.eq_of_beq_eq_true hb;obtain rfl:=Option.some.inj h;exact hs.1
  | false=>rw [hb] at h;exact Nz hs.2 r u h
theorem xW {p q:List (Nat × Nat)} {B:Bx}:∀ {B':Bx},Nw p q B B'→∀ b T c,kP B' b=some (T,c)→kP B (Ey p b)=some (T,DN p q c)
 | [],_,_,_,_,h=>by cases h
 | (b',u,c')::B',hs,b,T,c,h=>by
  unfold kP at h;cases hb:Nat.beq b' b with
  | true =>rw [hb] at h;obtain rfl:=Nat.eq_of_beq_eq_true hb;cases h;exact hs.1
  | false=>rw [hb] at h;exact xW hs.2 b T c h
theorem NA {q:List (Nat × Nat)} {Γ:Gm}:∀ {Γ':Gm},Ny q Γ Γ'→∀ g S,lZ Γ' g=some S→lZ Γ (Ey q g)=some S
 | [],_,_,_,h=>by cases h
 | (t,s)::l',hs,r,u,h=>by
  unfold lZ at h;cases hb:Nat.beq t r with
  | true =>rw [hb] at h;obtain rfl:=Nat.eq_of_beq_eq_true hb;obtain rfl:=Option.some.inj h;exact hs.1
  | false=>rw [hb] at h;exact NA hs.2 r u h
theorem Holds.ren {w0:World} {B B':Bx} {Γ Γ':Gm} {α:Env} {γ:l7} {w:World} {p q:List (Nat × Nat)} (h:Holds w0 B Γ α γ w) (h2:Nw p q B B') (h3:Ny q Γ Γ') (h4:Tp p B'=true) :Holds w0 B' Γ' (fun b=>α (Ey p b)) (fun g=>γ (Ey q g)) w:=by
 have hown:∀ k,own B' (fun b=>α (Ey p b)) k→own B α k:=fun k ⟨b,⟨⟨T,c⟩,hb⟩,e⟩=>⟨Ey p b,⟨_,xW h2 b T c hb⟩,e⟩;refine ⟨h.ex,fun b T cs hb=>?_,fun b c hb hc e=>?_,fun g k=>h.sc _ _,fun g S hg=>?_⟩
 · rw [qR];exact h.box _ T _ (xW h2 b T cs hb)
 · obtain ⟨⟨T,x⟩,hx⟩:=hb;obtain ⟨⟨U,y⟩,hy⟩:=hc;exact Ri h4 ⟨_,hx⟩ ⟨_,hy⟩ (h.inj _ _ ⟨_,xW h2 b T x hx⟩ ⟨_,xW h2 c U y hy⟩ e)
 · exact S.grow (h.fact _ S (NA h3 g S hg)) (fun k hk=>.inl (hown k hk)) fun k hk=>(h.oq (hown k hk)).2.2
theorem NB {α:Env} {γ:l7} {l l':Fr} {p q:List (Nat × Nat)} (h:Nv p q l l') {t:Nat} {v:Value} (hv:Go.Proofs.YtgcieamfidoaoaaGreatDoor.Pl.look (iI (fun b=>α (Ey p b)) (fun g=>γ (Ey q g)) l') t=some v):Go.Proofs.YtgcieamfidoaoaaGreatDoor.Pl.look (iI α γ l) t=some v:=by
 rw [iC] at hv ⊢;cases e:lk l' t with
 | none=>rw [e] at hv;cases hv
 | some s =>rw [e] at hv;rw [Nz h t s e,← hv];exact congrArg some (Nu α γ s).symm
section
variable {P:Program} {Q:Exit→Act→World→Prop} {n:Nat} {ds:List Deferred} {w0:World} {cs:List Code} {l l':Fr} {B B':Bx} {Γ Γ':Gm}
theorem dM (p q:List (Nat × Nat)) (hc:HV P Q n ds w0 cs l' B' Γ') (h1:Nv p q l l') (h2:Nw p q B B') (h3:Ny q Γ Γ') (h4:Tp p B'=true):HV P Q n ds w0 cs l B Γ:=fun α γ w hH =>
 Cn (fun t v hv=>NB h1 hv) (hc _ _ w (hH.ren h2 h3 h4))
variable {X:Type} (lf:X→Fr) (Bf:X→Bx) (Γf:X→Gm) (μ:X→Nat) (pr:X→Prop)
def XM (w0:World) (k:Nat) (l:List (Nat × Value)) (w:World):Prop:=∃ x,μ x=k∧pr x∧∃ α γ,Holds w0 (Bf x) (Γf x) α γ w∧l=iI α γ (lf x)
theorem uV {c:Code} (x0:X) (hp:pr x0) (hs:∀ x,pr x→HV P (Exit.then (fun a' w'=>∃ k' l',k'<μ x∧Ag n ds a' l'∧XM lf Bf Γf μ pr w0 k' l' w') (Ks P Q cs)) n ds w0 [c] (lf x) (Bf x) (Γf x)) :HV P Q n ds w0 (.loop c::cs) (lf x0) (Bf x0) (Γf x0):=fun α γ w hH=>by refine xE (XM lf Bf Γf μ pr w0) (μ x0) ⟨x0,rfl,hp,α,γ,hH,rfl⟩ ?_;rintro k l w ⟨x,rfl,hx,α,γ,hH,rfl⟩;exact hs x hx α γ w hH
theorem pJ {k:Nat} {Q':Exit→Act→World→Prop} (x':X) (hk:μ x'<k) (hp:pr x') (p q:List (Nat × Nat)) (h1:Nv p q l (lf x')) (h2:Nw p q B (Bf x')) (h3:Ny q Γ (Γf x')) (h4:Tp p (Bf x')=true) :HV P (Exit.then (fun a' w'=>∃ k' l',k'<k∧Ag n ds a' l'∧XM lf Bf Γf μ pr w0 k' l' w') Q') n ds w0 [] l B Γ:=fun α γ w hH a ha =>
 ⟨μ x',_,hk,ha.less (fun t v hv=>NB h1 hv),x',rfl,hp,_,_,hH.ren h2 h3 h4,rfl⟩
end
section
variable {P:Program} {Q:Exit→Act→World→Prop} {n:Nat} {ds:List Deferred} {w0:World} {cs:List Code} {l:Fr} {B:Bx} {Γ:Gm} {L:List Oper}
theorem EX {ord:Option (List Nat)} {l0:Fr} {B0:Bx} {Γ0:Gm} {tr:Tr} {d:Nat} {o:Oper} {x y:Operand} {t:Array TypeId} {rd:List Nat} {lr:Fr} {k:IntKind} {a b:Int} (ho:nth L (oi ord tr.length)=some o) (hop:o.op = .call { callee:=.builtin .max,args:=#[x,y],argTypes:=t }) (hd:o.dst=some d) (hrd:Di L o.guard++(sD x++sD y)=rd) (hlr:kX (vS l0 tr) rd=lr) (hg:lJ L lr o.guard=some true) (hx:ev lr x=some (.v (.int k a))) (hy:ev lr y=some (.v (.int k b))) (h:DA P Q n ds w0 cs L ord l0 B0 Γ0 (⟨some d,.v (.int k (max a b)),rd,[],[],none,none,none⟩::tr)):DA P Q n ds w0 cs L ord l0 B0 Γ0 tr :=
 EJ (.v (.int k (max a b))) (sD x++sD y) [] ho hd hrd hlr hg rfl (fun α γ w _ ρ hρ=>by
  unfold execOp;rw [hop];refine fI (Builtin.max_ _ _ (#[x,y].map ρ)) w ?_;have e1:ρ x = .int k a:=hρ.fO (dJ (α:=α) (γ:=γ) hx);have e2:ρ y = .int k b:=hρ.fO (dJ (α:=α) (γ:=γ) hy);rw [show #[x,y].map ρ=#[.int k a,.int k b] from by simp [e1,e2]];have e:max a b=if b>a then b else a:=by split<;>omega
  rw [show den α γ (.v (.int k (max a b))) = .int k (max a b) from rfl];rw [e];exact run_max_int2 _ _ _ _ _ _ _) h
theorem adD {ord:Option (List Nat)} {l0:Fr} {B0:Bx} {Γ0:Gm} {tr:Tr} {d:Nat} {o:Oper} {rd:List Nat} {lr:Fr} {Γr:Gm} (P9 gs:List Nat) (g:Nat) (S:Spec) (res:SV) (ho:nth L (oi ord tr.length)=some o) (hd:o.dst=some d) (hrd:Di L o.guard++P9=rd) (hlr:kX (vS l0 tr) rd=lr) (hg:lJ L lr o.guard=some true) (hΓ:qb (Eg Γ0 tr) gs=Γr) (DY:∀ α γ w,Holds w0 [] Γr α γ w→∃ F w',(∀ k,bU (F k)=true)∧(∀ ρ,Cons ρ (iI α γ lr)→(execOp ρ o).run P w = .ok (.value (den α (upd γ g F) res)) w')∧(∀ X:Nat→Prop,(∀ k,X k→k<w.heap.size∧IE w k)→S.P X w' F)∧aS w w') (h:DA P Q n ds w0 cs L ord l0 B0 Γ0 (⟨some d,res,rd,[],gs,none,none,some (g,S)⟩::tr)):DA P Q n ds w0 cs L ord l0 B0 Γ0 tr:=fun ha=>h (by subst hΓ hlr;exact ⟨.eff o d g S res rd gs ho hd hg DY,ha⟩)
theorem lD {r:qE} {i mm d:Nat} {o:Oper} {e:TypeId} {m:Nat} (vs:List Value) (g:Nat) (S:RS) (ho:nth L i=some o) (hd:o.dst=some d) (hg:lJ L l o.guard=some true) (hk:∀ α γ,known (iI α γ l) o.op=true) (he:∀ α γ X,(execOp (LC (iI α γ l)) o).run P X = .ok (.value (.slice (some ⟨X.heap.size,0,none⟩) m m)) (X.alloc (.cells vs.toArray e))) (hfr:fresh g l B Γ=true) (hR:∀ N w,Cb w N e vs→S.R w (tK [.slice (some ⟨N,0,none⟩) m m])) (h:HA P Q n ds w0 cs L r ((d,.c g 0)::l) B ((g,S.S)::Γ)):HA P Q n ds w0 cs L ((false,i,mm)::r) l B Γ:=fun α γ w hH=>by obtain ⟨h1,h2,h3⟩:=oC hfr;have Eh:=hH.ext (aS.alloc w (.cells vs.toArray e));have hA:=h α (upd γ g (tK [.slice (some ⟨w.heap.size,0,none⟩) m m])) _ (Eh.add g S.S _ h2 (fA rfl) ⟨hR _ _ (Cb.new w e vs),Eh.noU⟩ h3);rw [tO,oD l h1,show den α (upd γ g (tK [.slice (some ⟨w.heap.size,0,none⟩) m m])) (.c g 0)=upd γ g (tK [.slice (some ⟨w.heap.size,0,none⟩) m m]) g 0 from rfl,upd_same] at hA;exact l8 ho hd (jc hg α γ) (fun ρ hρ=>by rw [ku hρ (hk α γ)];exact he α γ w) trivial hA
end
def aau (T:TypeId) (n:Nat) (cs:List Value):Spec where
 P X w f:=∃ N,f 0 = .slice (some ⟨N,0,none⟩) n n∧¬ X N∧Cb w N T cs
 keep:=fun ⟨N,h1,h2,h3⟩ _ hk _ _=>⟨N,h1,h2,(hk N (Cb.lt h3) h2).trans h3⟩
 grow:=fun ⟨N,h1,h2,h3⟩ hY _=>⟨N,h1,fun h=>(hY N h).elim h2 (fun h9=>by have:=Cb.lt h3;omega),h3⟩
section
variable {P:Program} {Q:Exit→Act→World→Prop} {n:Nat} {ds:List Deferred} {w0:World} {cs:List Code} {l:Fr} {B:Bx} {Γ:Gm} {L:List Oper}
theorem aeO {ord:Option (List Nat)} {l0:Fr} {B0:Bx} {Γ0:Gm} {tr:Tr} {d:Nat} {o:Oper} {rd:List Nat} {lr:Fr} {e:TypeId} {m:Nat} (vs:List Value) (g:Nat) (ho:nth L (oi ord tr.length)=some o) (hd:o.dst=some d) (P9:List Nat) (hrd:Di L o.guard++P9=rd) (hlr:kX (vS l0 tr) rd=lr) (hg:lJ L lr o.guard=some true) (hk:∀ α γ,known (iI α γ lr) o.op=true) (he:∀ α γ X,(execOp (LC (iI α γ lr)) o).run P X = .ok (.value (.slice (some ⟨X.heap.size,0,none⟩) m m)) (X.alloc (.cells vs.toArray e))) (h:DA P Q n ds w0 cs L ord l0 B0 Γ0 (⟨some d,.c g 0,rd,[],[],none,none,some (g,aau e m vs)⟩::tr)):DA P Q n ds w0 cs L ord l0 B0 Γ0 tr :=
 adD P9 [] g (aau e m vs) (.c g 0) ho hd hrd hlr hg rfl (fun α γ w _=>⟨tK [.slice (some ⟨w.heap.size,0,none⟩) m m],w.alloc (.cells vs.toArray e),fA rfl,fun ρ hρ=>by
  rw [ku hρ (hk α γ),he α γ w,show den α (upd γ g (tK [.slice (some ⟨w.heap.size,0,none⟩) m m])) (.c g 0)=upd γ g (tK [.slice (some ⟨w.heap.size,0,none⟩) m m]) g 0 from rfl,upd_same];rfl,fun X hX=>⟨w.heap.size,rfl,fun h9=>by have:=(hX _ h9).1;omega,Cb.new w e vs⟩,aS.alloc w _⟩) h
theorem acm {r:qE} {i mm d:Nat} {o:Oper} {e:TypeId} {m:Nat} (vs:List Value) (g:Nat) (ho:nth L i=some o) (hd:o.dst=some d) (hg:lJ L l o.guard=some true) (hk:∀ α γ,known (iI α γ l) o.op=true) (he:∀ α γ X,(execOp (LC (iI α γ l)) o).run P X = .ok (.value (.slice (some ⟨X.heap.size,0,none⟩) m m)) (X.alloc (.cells vs.toArray e))) (hfr:fresh g l B Γ=true) (h:HA P Q n ds w0 cs L r ((d,.c g 0)::l) B ((g,aau e m vs)::Γ)):HA P Q n ds w0 cs L ((false,i,mm)::r) l B Γ:=fun α γ w hH=>by obtain ⟨h1,h2,h3⟩:=oC hfr;have Eh:=hH.ext (aS.alloc w (.cells vs.toArray e));have hA:=h α (upd γ g (tK [.slice (some ⟨w.heap.size,0,none⟩) m m])) _ (Eh.add g (aau e m vs) _ h2 (fA rfl) ⟨w.heap.size,rfl,fun h9=>by have:=(hH.oq h9).1;omega,Cb.new w e vs⟩ h3);rw [tO,oD l h1,show den α (upd γ g (tK [.slice (some ⟨w.heap.size,0,none⟩) m m])) (.c g 0)=upd γ g (tK [.slice (some ⟨w.heap.size,0,none⟩) m m]) g 0 from rfl,upd_same] at hA;exact l8 ho hd (jc hg α γ) (fun ρ hρ=>by rw [ku hρ (hk α γ)];exact he α γ w) trivial hA
end
abbrev vI (z:Int):SV:=.v (.int .i64 z)
abbrev vB (b:Bool):SV:=.v (.bool b)
abbrev vT:SV:=.v (.bool true)
abbrev vF:SV:=.v (.bool false)
abbrev vN:SV:=.v (.slice none 0 0)
def SB:Nat→List Code→List Code
 | m+1,.seq a b::r=>SB m (a::b::r)
 | _,r=>r
def yU (T:TI) (L:List Oper):qE→Fr→Bx→Nat→Option (qE × Fr × Bx × Nat)
 | (false,i,m)::r,l,B,k=>match nth L i with
  | none=>some ((false,i,m)::r,l,B,k)
  | some o=>match lJ L l o.guard with
   | none=>some ((false,i,m)::r,l,B,k)
   | some false=>match o.dst with
    | some d=>yU T L r ((d,.v undef)::l) B k
    | none=>some ((false,i,m)::r,l,B,k)
   | some true=>match Ti T l B k o.op with
    | none=>some ((false,i,m)::r,l,B,k)
    | some (some s,B',k')=>match o.dst with
     | some d=>yU T L r ((d,s)::l) B' k'
     | none=>some ((false,i,m)::r,l,B,k)
    | some (none,B',k')=>match o.dst with
     | none=>yU T L r l B' k'
     | some _=>some ((false,i,m)::r,l,B,k)
 | r,l,B,k=>some (r,l,B,k)
theorem BP {T:TI} {L:List Oper}:∀ (r:qE) {l:Fr} {B:Bx} {k:Nat},yU T L r l B k=some (GV T L r l B k)
 | [],l,B,k=>rfl
 | (true,i,m)::r,l,B,k=>rfl
 | (false,i,m)::r,l,B,k=>by
  unfold yU GV;cases nth L i with
  | none=>rfl
  | some o =>
   dsimp only;cases lJ L l o.guard with
   | none=>rfl
   | some b =>
    cases b with
    | false =>
     dsimp only;cases o.dst with
     | none=>rfl
     | some d=>exact BP r
    | true =>
     dsimp only;cases Ti T l B k o.op with
     | none=>rfl
     | some q =>
      obtain ⟨s,B',k'⟩:=q;cases s with
      | none =>
       dsimp only;cases o.dst with
       | none=>exact BP r
       | some d=>rfl
      | some s =>
       dsimp only;cases o.dst with
       | none=>rfl
       | some d=>exact BP r
theorem xX {T:TI} {L:List Oper} {r r':qE} {l l':Fr} {B B':Bx} {k k':Nat} (h:yU T L r l B k=some (r',l',B',k')):GV T L r l B k=(r',l',B',k'):=by rw [BP] at h;exact Option.some.inj h
def NS (n:Nat) (T:TI) (q:Nat):Nat→List Code→Fr→Bx→Nat→Option (List Code × Fr × Bx × Nat)
 | 0,cs,l,B,k=>some (SB q cs,l,B,k)
 | m+1,cs,l,B,k=>match SB 200 cs with
  | .skip::r=>NS n T q m r l B k
  | .cond c x y::r=>match ev l c with
   | some (.v (.bool true))=>NS n T q m (x::r) l B k
   | some (.v (.bool false))=>NS n T q m (y::r) l B k
   | _=>none
  | .region _ ⟨L⟩ false::r=>match uD n L with
   | true=>match yU T L (SC 0 L) l B k with
    | some ([],l',B',k')=>NS n T q m r l' B' k'
    | _=>none
   | false=>none
  | _=>none
def aaw (n:Nat) (T:TI) (m:Nat) (cs:List Code) (l:Fr) (B:Bx) (k:Nat):Option (List Oper × qE × List Code × Fr × Bx × Nat):=match NS n T 200 m cs l B k with
 | some (.region _ ⟨L⟩ false::r,l1,B1,k1)=>match uD n L with
  | true=>match yU T L (SC 0 L) l1 B1 k1 with
   | some (p,l',B',k')=>some (L,p,r,l',B',k')
   | none=>none
  | false=>none
 | _=>none
def aax (n:Nat) (T:TI) (q:Nat) (L:List Oper) (p:qE) (m:Nat) (cs:List Code) (l:Fr) (B:Bx) (k:Nat):Option (List Code × Fr × Bx × Nat):=match yU T L p l B k with
 | some ([],l1,B1,k1)=>NS n T q m cs l1 B1 k1
 | _=>none
def abH (n:Nat) (T:TI) (L:List Oper) (p:qE) (m:Nat) (cs:List Code) (l:Fr) (B:Bx) (k:Nat):Option (List Oper × qE × List Code × Fr × Bx × Nat):=match yU T L p l B k with
 | some ([],l1,B1,k1)=>aaw n T m cs l1 B1 k1
 | _=>none
section
variable {P:Program} {Q:Exit→Act→World→Prop} {n:Nat} {ds:List Deferred} {w0:World} {Γ:Gm} {T:TI}
theorem He:∀ (m:Nat) {cs:List Code} {l:Fr} {B:Bx},HV P Q n ds w0 (SB m cs) l B Γ→HV P Q n ds w0 cs l B Γ
 | 0,cs,l,B,h=>by
  have e:SB 0 cs=cs:=by cases cs with | nil=>rfl | cons c r=>cases c<;>rfl
  rw [e] at h;exact h
 | m+1,cs,l,B,h=>by
  cases cs with
  | nil=>exact h
  | cons c r=>cases c with
   | seq a b=>exact dG (He m h)
   | _=>exact h
theorem vM (hT:BX P T) {q:Nat}:∀ (m:Nat) {cs cs':List Code} {l l':Fr} {B B':Bx} {k k':Nat},NS n T q m cs l B k=some (cs',l',B',k')→HV P Q n ds w0 cs' l' B' Γ→HV P Q n ds w0 cs l B Γ
 | 0,cs,cs',l,l',B,B',k,k',e,h=>by cases e;exact He q h
 | m+1,cs,cs',l,l',B,B',k,k',e,h=>by
  refine He 200 ?_;unfold NS at e;split at e
  · next r hc=>rw [hc];exact aaj (vM hT m e h)
  · next c x y r hc =>
    rw [hc];split at e
    · next hv=>exact aak hv (vM hT m e h)
    · next hv=>exact Xu hv (vM hT m e h)
    · cases e
  · next id L r hc =>
    rw [hc];split at e
    · next hk =>
      split at e
      · next l1 B1 k1 hx=>exact Jh (L:=L) hk (aF hT k (xX hx) (KE (vM hT m e h)))
      · cases e
    · cases e
  · cases e
theorem Rj (hT:BX P T) {m:Nat} {cs cs':List Code} {l l':Fr} {B B':Bx} {k k':Nat} {L:List Oper} {p:qE} (e:aaw n T m cs l B k=some (L,p,cs',l',B',k')) (h:HA P Q n ds w0 cs' L p l' B' Γ):HV P Q n ds w0 cs l B Γ:=by
 unfold aaw at e;split at e
 · next id L1 r l1 B1 k1 ha =>
   refine vM hT m ha ?_;split at e
   · next hk =>
     split at e
     · next p1 l2 B2 k2 hx =>cases e;exact Jh (L:=L) hk (aF hT _ (xX hx) h)
     · cases e
   · cases e
 · cases e
theorem bP (hT:BX P T) (m k:Nat) {cs cs':List Code} {l l':Fr} {B B':Bx} {k':Nat} (e:NS n T 200 m cs l B k=some (cs',l',B',k')) (h:HV P Q n ds w0 cs' l' B' Γ):HV P Q n ds w0 cs l B Γ:=vM hT m e h
theorem tX (hT:BX P T) (m k:Nat) {cs cs':List Code} {l l':Fr} {B B':Bx} {k':Nat} (e:NS n T 0 m cs l B k=some (cs',l',B',k')) (h:HV P Q n ds w0 cs' l' B' Γ):HV P Q n ds w0 cs l B Γ:=vM hT m e h
theorem aD (hT:BX P T) (m k:Nat) {cs cs':List Code} {l l':Fr} {B B':Bx} {k':Nat} {L:List Oper} {p:qE} (e:aaw n T m cs l B k=some (L,p,cs',l',B',k')) (h:HA P Q n ds w0 cs' L p l' B' Γ):HV P Q n ds w0 cs l B Γ:=Rj hT e h
theorem aL (hT:BX P T) (m k:Nat) {cs cs':List Code} {l l':Fr} {B B':Bx} {k':Nat} {L:List Oper} {p:qE} (e:aax n T 200 L p m cs l B k=some (cs',l',B',k')) (h:HV P Q n ds w0 cs' l' B' Γ):HA P Q n ds w0 cs L p l B Γ:=by
 unfold aax at e;split at e
 · next hx=>exact aF hT k (xX hx) (KE (vM hT m e h))
 · cases e
theorem mh (hT:BX P T) (m k:Nat) {cs cs':List Code} {l l':Fr} {B B':Bx} {k':Nat} {L:List Oper} {p:qE} (e:aax n T 0 L p m cs l B k=some (cs',l',B',k')) (h:HV P Q n ds w0 cs' l' B' Γ):HA P Q n ds w0 cs L p l B Γ:=by
 unfold aax at e;split at e
 · next hx=>exact aF hT k (xX hx) (KE (vM hT m e h))
 · cases e
theorem ay (hT:BX P T) (m k:Nat) {cs cs':List Code} {l l':Fr} {B B':Bx} {k':Nat} {L L':List Oper} {p p':qE} (e:abH n T L p m cs l B k=some (L',p',cs',l',B',k')) (h:HA P Q n ds w0 cs' L' p' l' B' Γ):HA P Q n ds w0 cs L p l B Γ:=by
 unfold abH at e;split at e
 · next hx=>exact aF hT k (xX hx) (KE (Rj hT e h))
 · cases e
end
def hdS:SV→Option SV
 | .v x=>some (.v x)
 | .p b o=>some (.p b o)
 | .c g k=>some (.c g k)
 | .a l=>some (.a l)
 | .t l=>some (.t l)
 | .f a b c=>some (.f a b c)
theorem adE (s:SV):hdS s=some s:=by cases s<;>rfl
def Tq:List SV→Option (List SV)
 | []=>some []
 | s::r=>match hdS s with
  | some s'=>match Tq r with
   | some r'=>some (s'::r')
   | none=>none
  | none=>none
theorem KS:∀ l:List SV,Tq l=some l
 | []=>rfl
 | s::r=>by unfold Tq;rw [adE,KS r]
def frS:SV→Option SV
 | .a l=>match Tq l with
  | some l'=>some (.a l')
  | none=>none
 | s=>hdS s
theorem adF (s:SV):frS s=some s:=by
 cases s with
 | a l=>show (match Tq l with | some l'=>some (SV.a l') | none=>none)=_;rw [KS]
 | _=>rfl
def aay (l:Fr):List Nat→Option Fr
 | []=>some []
 | t::ts=>match lk l t with
  | some s=>match frS s with
   | some s'=>match aay l ts with
    | some r=>some ((t,s')::r)
    | none=>none
   | none=>none
  | none=>none
theorem Rk {l:Fr}:∀ {ts:List Nat} {l':Fr},aay l ts=some l'→aar l l'
 | [],_,h=>by cases h;trivial
 | t::ts,l',h=>by
  unfold aay at h;split at h
  · next s hs =>
    rw [adF] at h;dsimp only at h;split at h
    · next r hr=>cases h;exact ⟨hs,Rk hr⟩
    · cases h
  · cases h
def aaz (B:Bx):List Nat→Option Bx
 | []=>some []
 | b::bs=>match kP B b with
  | some (u,c)=>match Tq c with
   | some c'=>match aaz B bs with
    | some r=>some ((b,u,c')::r)
    | none=>none
   | none=>none
  | none=>none
theorem Rl {B:Bx}:∀ {bs:List Nat} {B':Bx},aaz B bs=some B'→aas B B'
 | [],_,h=>by cases h;trivial
 | b::bs,B',h=>by
  unfold aaz at h;split at h
  · next u c hs =>
    rw [KS] at h;dsimp only at h;split at h
    · next r hr=>cases h;exact ⟨hs,Rl hr⟩
    · cases h
  · cases h
def aaA (Γ:Gm):List Nat→Option Gm
 | []=>some []
 | g::gs=>match lZ Γ g with
  | some S=>match aaA Γ gs with
   | some r=>some ((g,S)::r)
   | none=>none
  | none=>none
theorem Rm {Γ:Gm}:∀ {gs:List Nat} {Γ':Gm},aaA Γ gs=some Γ'→aat Γ Γ'
 | [],_,h=>by cases h;trivial
 | g::gs,Γ',h=>by
  unfold aaA at h;split at h
  · next S hs =>
    split at h
    · next r hr=>cases h;exact ⟨hs,Rm hr⟩
    · cases h
  · cases h
def kpA (l:Fr) (B:Bx) (Γ:Gm) (ts bs gs:List Nat):Option (Fr × Bx × Gm):=match aay l ts with
 | some l'=>match aaz B bs with
  | some B'=>match aaA Γ gs with
   | some Γ'=>some (l',B',Γ')
   | none=>none
  | none=>none
 | none=>none
theorem aU {P:Program} {Q:Exit→Act→World→Prop} {n:Nat} {ds:List Deferred} {w0:World} {cs:List Code} {l l':Fr} {B B':Bx} {Γ Γ':Gm} (ts bs gs:List Nat) (e:kpA l B Γ ts bs gs=some (l',B',Γ')) (h:HV P Q n ds w0 cs l' B' Γ'):HV P Q n ds w0 cs l B Γ:=by
 unfold kpA at e;split at e
 · next l1 h1 =>
   split at e
   · next B1 h2 =>
     split at e
     · next G1 h3=>cases e;exact Oh h (Rk h1) (Rl h2) (Rm h3)
     · cases e
   · cases e
 · cases e
section
variable {P:Program} {Q:Exit→Act→World→Prop} {n:Nat} {ds:List Deferred} {w0:World} {cs:List Code} {l:Fr} {B:Bx} {Γ:Gm} {L:List Oper}
theorem bM {cs0:List Code} {id:Nat} (ord:Option (List Nat)) (hm:P.follows .mixedOrders=true) (e:SB 200 cs0 = .region id L.toArray true::cs) (h:DA P Q n ds w0 cs L ord l B Γ []):HV P Q n ds w0 cs0 l B Γ:=He 200 (by rw [e];exact aQ ord hm h)
theorem aj {r:qE} {i m d:Nat} {o:Oper} {x y:Operand} {op:BinOp} {tx ty:TypeId} {u u' v:Value} (hr:∀ X,Bn P op tx x y u u' X = .ok v X) (e:(nth L i,o.op,o.dst,lJ L l o.guard,ev l x,ev l y)=(some o,.binOp op tx x y ty,some d,some true,some (.v u),some (.v u'))) (h:HA P Q n ds w0 cs L r ((d,.v v)::l) B Γ):HA P Q n ds w0 cs L ((false,i,m)::r) l B Γ:=by simp only [Prod.mk.injEq] at e;exact Ol hr e.1 e.2.1 e.2.2.1 e.2.2.2.1 e.2.2.2.2.1 e.2.2.2.2.2 h
theorem bf {r:qE} {i m d:Nat} {o:Oper} {x:Operand} {u:UnOp} {t:TypeId} {a:Value} (v:Value) (e:(nth L i,o.op,o.dst,lJ L l o.guard,ev l x)=(some o,.unOp u t x,some d,some true,some (.v a))) (hr:∀ X,(Op.unary u a).run P X = .ok v X) (h:HA P Q n ds w0 cs L r ((d,.v v)::l) B Γ):HA P Q n ds w0 cs L ((false,i,m)::r) l B Γ:=by simp only [Prod.mk.injEq] at e;exact agJ v e.1 e.2.1 e.2.2.1 e.2.2.2.1 e.2.2.2.2 hr h
variable {ord:Option (List Nat)} {l0:Fr} {B0:Bx} {Γ0:Gm} {tr:Tr}
theorem ajy {d:Nat} {o:Oper} {rd gs:List Nat} {lr:Fr} {Γr:Gm} {op:BinOp} {tx ty:TypeId} {x y:Operand} {sx sy:SV} (s:SV) (e:(nth L (oi ord tr.length),o.op,o.dst,Di L o.guard++(sD x++sD y),kX (vS l0 tr) rd,lJ L lr o.guard,ev lr x,ev lr y,gsO sx++gsO sy,qb (Eg Γ0 tr) gs)=(some o,.binOp op tx x y ty,some d,rd,lr,some true,some sx,some sy,gs,Γr)) (hr:∀ α γ w,Holds w0 [] Γr α γ w→Bn P op tx x y (den α γ sx) (den α γ sy) w = .ok (den α γ s) w) (h:DA P Q n ds w0 cs L ord l0 B0 Γ0 (⟨some d,s,rd,[],gs,none,none,none⟩::tr)):DA P Q n ds w0 cs L ord l0 B0 Γ0 tr:=by simp only [Prod.mk.injEq] at e;exact Ei s e.1 e.2.1 e.2.2.1 e.2.2.2.1 e.2.2.2.2.1 e.2.2.2.2.2.1 e.2.2.2.2.2.2.1 e.2.2.2.2.2.2.2.1 e.2.2.2.2.2.2.2.2.1 e.2.2.2.2.2.2.2.2.2 hr h
theorem agK {T:TI} (hT:BX P T) {fn:Func} {R:Ending→World→Prop} {xs:List ResultVar} {ss:List SV} {cs0:List Code} (e:(SB 200 cs0,fn.results,Ph T l B xs)=(.ret::cs,xs.toArray,some ss)) (h:∀ α γ w,Holds w0 B Γ α γ w→R (.returned (den α γ (tup ss))) w):HV P (bodyPost P fn R) n [] w0 cs0 l B Γ:=by simp only [Prod.mk.injEq] at e;exact He 200 (by rw [e.1];exact gJ hT (fun _ _ h=>h) e.2.1 e.2.2 h)
end
end Rf
section
open Go Go.RowKit
abbrev A0d (b p:Nat) (lo hi:Int):Rf.SV:=.a [Rf.vI ((b:Nat):Int),Rf.vI ((p:Nat):Int),Rf.vI lo,Rf.vI hi]
abbrev A0e (a b c d:Int):Rf.SV:=.a [Rf.vI a,Rf.vI b,Rf.vI c,Rf.vI d]
