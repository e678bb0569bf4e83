/- Floats as facts of walks; formats; how long powers are. -/
import Derived.Test.YtgcieamfidoaoaaGreatDoorEbc
import Derived.Test.YtgcieamfidoaoaaGreatDoorEbd
import Derived.Test.YtgcieamfidoaoaaGreatDoorEbe
import Derived.Test.YtgcieamfidoaoaaGreatDoorEbb
import Derived.Test.YtgcieamfidoaoaaGreatDoorEbf
set_option linter.all false
set_option maxHeartbeats 8000000
namespace Go.Proofs.YtgcieamfidoaoaaGreatDoor
open Go Go.RowKit Fm
set_option maxRecDepth 100000
def Fv (w:World) (v:Value) (x:Fl):Prop:=∃ A c,v = .agg #[.int .i64 (kd x),.bool (ng x),.slice A (limbs (mn x)).length c,.int .i64 (xp x)]∧Un w (.slice A (limbs (mn x)).length c) (mn x)
theorem Fv.mk {w:World} {s:Value} {x:Fl} (u:Un w s (mn x)):Fv w (.agg #[.int .i64 (kd x),.bool (ng x),s,.int .i64 (xp x)]) x:=by
 obtain ⟨A,c,rfl⟩:=Un.jX u
 exact ⟨A,c,rfl,u⟩
theorem iA (w:World):Un w (.slice none 0 0) 0:=by
 show U w _ (limbs 0)
 rw [aX];exact U.yX w none 0
structure fT (b p:Nat) (lo hi:Int):Prop where
 r:b=2∨b=10
 p1:1≤p
 ku:p≤17
 l:lo≤hi
 l1 : -100≤lo
 h1:hi≤300
theorem fT.b2 {b p:Nat} {lo hi:Int} (h:fT b p lo hi):2≤b:=by rcases h.r with h | h<;>omega
theorem J4 {b:Nat} (hb:b=2∨b=10) (k:Nat):b^k≤16^k:=Nat.pow_le_pow_left (by omega) k
theorem bK {b k K:Nat} (hb:b=2∨b=10) (h:k<8*K):Sn (b^k) K:=by
 refine Sn.of (Nat.lt_of_le_of_lt (J4 hb k) ?_)
 rw [show (4294967296:Nat)=16^8 by decide,← Nat.pow_mul]
 exact Nat.pow_lt_pow_right (by decide) h
theorem aaE {b p:Nat} {lo hi:Int} (hf:fT b p lo hi) {x:Fl} (h:bO b p lo hi x):Sn (mn x) 3:=by
 cases x with
 | fin n m e =>
  have h1:=h.1.2.2.1
  have h0:=h.1.2.1
  refine Sn.of ?_
  show m.natAbs<_
  have h2:b^p≤16^17:=Nat.le_trans (J4 hf.r p) (Nat.pow_le_pow_right (by decide) hf.ku)
  have h3:(16:Nat)^17<4294967296^3:=by decide
  omega
 | zero n=>exact Sn.zero
 | inf n=>exact Sn.zero
theorem aaF {w:World} {a b c:Value} {q:Rat} {n:Int} {m L M:Nat} (hz:Zn w (.agg #[a,b]) n) (hd:Un w c m) (h1:q.num=n) (h2:q.den=m) (z:Sz n L) (y:Sn m M):Qn w (.agg #[a,b,c]) q L M:=by
 subst h1 h2
 obtain ⟨A,k,e,u⟩:=hz
 obtain ⟨B,j,rfl⟩:=Un.jX hd
 have e2:=Array.mk.inj (Value.agg.inj e)
 simp only [List.cons.injEq,and_true] at e2
 rw [e2.1,e2.2]
 exact ⟨A,k,B,j,rfl,u,hd,z,y⟩
end Go.Proofs.YtgcieamfidoaoaaGreatDoor
namespace Go.Proofs.YtgcieamfidoaoaaGreatDoor.Rf
open Go Go.RowKit Go.Proofs.YtgcieamfidoaoaaGreatDoor.Pl Fm
set_option maxRecDepth 100000
section
variable {P:Program} {f:FuncId} {args:Array Value} {w:World} {α:Env} {γ:kR}
theorem fC {x:Fl} (g:Nat) (h:Calls P f args w (fun e w'=>∃ u,e = .returned u∧Fv w' u x∧Ex w w')) :
  Calls P f args w (fun e w'=>∃ F,(∀ k,bG (F k)=true)∧e = .returned (den α (upd γ g F) (.a [vI (kd x),vB (ng x),.c g 0,vI (xp x)]))∧(dW (mn x)).R w' F∧Ex w w'):=Calls.mono h fun e w' ⟨u,he,⟨A,c,hu,hU⟩,hE⟩=>by
 subst hu he
 refine ⟨wo [.slice A (limbs (mn x)).length c],eG rfl,?_,hU,hE⟩
 simp only [den,bZ,upd_same];rfl
theorem dP {x:Fl} (g:Nat) (h:Calls P f args w (fun e w'=>∃ u,e = .returned (.tuple #[u,.int .i64 0])∧Fv w' u x∧Ex w w')) :
  Calls P f args w (fun e w'=>∃ F,(∀ k,bG (F k)=true)∧e = .returned (den α (upd γ g F) (.t [.a [vI (kd x),vB (ng x),.c g 0,vI (xp x)],vI 0]))∧(dW (mn x)).R w' F∧Ex w w'):=Calls.mono h fun e w' ⟨u,he,⟨A,c,hu,hU⟩,hE⟩=>by
 subst hu he
 refine ⟨wo [.slice A (limbs (mn x)).length c],eG rfl,?_,hU,hE⟩
 simp only [den,bZ,upd_same];rfl
theorem nJ {q:Rat} {L M:Nat} {y:Value} (g:Nat) (h:Calls P f args w (fun e w'=>∃ u,e = .returned (.tuple #[u,y])∧Qn w' u q L M∧Ex w w')) :
  Calls P f args w (fun e w'=>∃ F,(∀ k,bG (F k)=true)∧e = .returned (den α (upd γ g F) (.t [.a [.c g 0,.c g 1,.c g 2],.v y]))∧(pI q L M).R w' F∧Ex w w'):=Calls.mono h fun e w' ⟨u,he,⟨A,c,B,b,hu,hU,hT,hz,hy⟩,hE⟩=>by
 subst hu he
 refine ⟨wo [.bool (decide (q.num<0)),.slice A (limbs q.num.natAbs).length c,.slice B (limbs q.den).length b],eG rfl,?_,⟨A,c,B,b,rfl,hU,hT,hz,hy⟩,hE⟩
 simp only [den,bZ,upd_same];rfl
def Z2R (z z':Int):RS:=⟨fun w f=>Zn w (.agg #[f 0,f 1]) z∧Zn w (.agg #[f 2,f 3]) z',fun ⟨⟨A,c,e,u⟩,⟨B,b,e',u'⟩⟩ hs hk=>⟨⟨A,c,e,jd u hs hk⟩,⟨B,b,e',jd u' hs hk⟩⟩⟩
theorem Wt {z z':Int} (g:Nat) (h:Calls P f args w fun e w'=>(∃ u v,e = .returned (.tuple #[u,v,.int .i64 0])∧Zn w' u z∧Zn w' v z')∧Ex w w') :
  Calls P f args w (fun e w'=>∃ F,(∀ k,bG (F k)=true)∧e = .returned (den α (upd γ g F) (.t [.a [.c g 0,.c g 1],.a [.c g 2,.c g 3],vI 0]))∧(Z2R z z').R w' F∧Ex w w'):=Calls.mono h fun e w' ⟨⟨u,v,he,⟨A,c,hu,hU⟩,⟨B,b,hv,hV⟩⟩,hE⟩=>by
 subst hu hv he
 refine ⟨wo [.bool (decide (z<0)),.slice A (limbs z.natAbs).length c,.bool (decide (z'<0)),.slice B (limbs z'.natAbs).length b],eG rfl,?_,⟨⟨A,c,rfl,hU⟩,⟨B,b,rfl,hV⟩⟩,hE⟩
 simp only [den,bZ,upd_same];rfl
theorem iE {w:World} {x y:Value} {z:Int} (h:Zn w (.agg #[x,y]) z):Un w y z.natAbs:=by
 obtain ⟨A,c,e,u⟩:=h
 have e2:=Array.mk.inj (Value.agg.inj e)
 simp only [List.cons.injEq,and_true] at e2
 rw [e2.2];exact u
theorem PZ {m:Nat} {y:Value} (g:Nat) (h:Calls P f args w (fun e w'=>∃ u,e = .returned (.tuple #[u,y])∧Un w' u m∧Ex w w')) :
  Calls P f args w (fun e w'=>∃ F,(∀ k,bG (F k)=true)∧e = .returned (den α (upd γ g F) (.t [.c g 0,.v y]))∧(dW m).R w' F∧Ex w w'):=Calls.mono h fun e w' ⟨u,he,hU,hE⟩=>by
 obtain ⟨A,c,hu⟩:=Un.jX hU
 subst hu he
 refine ⟨wo [.slice A (limbs m).length c],eG rfl,?_,hU,hE⟩
 simp only [den,bZ,upd_same];rfl
theorem P5 {m:Nat} {a b c d y:Value} (g:Nat) (h:Calls P f args w (fun e w'=>∃ u,e = .returned (.tuple #[u,.agg #[a,b,c,d],y])∧Un w' u m∧Ex w w')) :
  Calls P f args w (fun e w'=>∃ F,(∀ k,bG (F k)=true)∧e = .returned (den α (upd γ g F) (.t [.c g 0,.a [.v a,.v b,.v c,.v d],.v y]))∧(dW m).R w' F∧Ex w w'):=Calls.mono h fun e w' ⟨u,he,hU,hE⟩=>by
 obtain ⟨A,c,hu⟩:=Un.jX hU
 subst hu he
 refine ⟨wo [.slice A (limbs m).length c],eG rfl,?_,hU,hE⟩
 simp only [den,bZ,upd_same];rfl
theorem aaG {z:Int} {y:Value} (g:Nat) (h:Calls P f args w (fun e w'=>∃ u,e = .returned (.tuple #[u,y])∧Zn w' u z∧Ex w w')) :
  Calls P f args w (fun e w'=>∃ F,(∀ k,bG (F k)=true)∧e = .returned (den α (upd γ g F) (.t [.a [.c g 0,.c g 1],.v y]))∧(Wu z).R w' F∧Ex w w'):=Calls.mono h fun e w' ⟨u,he,⟨A,c,hu,hU⟩,hE⟩=>by
 subst hu he
 refine ⟨wo [.bool (decide (z<0)),.slice A (limbs z.natAbs).length c],eG rfl,?_,⟨A,c,rfl,hU⟩,hE⟩
 simp only [den,bZ,upd_same];rfl
end
section
variable {P:Program} {Q:Exit→Act→World→Prop} {n:Nat} {ds:List Deferred} {w0:World} {cs:List Code} {l:Fr} {B:Bx} {Γ:Gm} {L:List Oper} {ord:Option (List Nat)} {l0:Fr} {B0:Bx} {Γ0:Gm}
theorem Ub {c c':Code} (l':Fr) (B':Bx) (Γ':Gm) (h1:HV P Q n ds w0 cs l' B' Γ') (h2:HV P Q n ds w0 cs l' B' Γ'→HV P Q n ds w0 (c::c'::cs) l B Γ):HV P Q n ds w0 (c::c'::cs) l B Γ:=h2 h1
theorem Uc {X:Type} {p:X→Prop} {c:Code} (l':X→Fr) (B':X→Bx) (Γ':X→Gm) (h1:∀ x,p x→HV P Q n ds w0 cs (l' x) (B' x) (Γ' x)) (h2:(∀ x,p x→HV P Q n ds w0 cs (l' x) (B' x) (Γ' x))→HV P Q n ds w0 (c::cs) l B Γ):HV P Q n ds w0 (c::cs) l B Γ:=h2 h1
theorem xy {tr:Tr} {d:Nat} {o:Oper} {f:FuncId} {y:Operand} {fs cap:List SV} {xs:List Operand} {ats:Array TypeId} {ss:List SV} {rd:List Nat} {lr:Fr} {Γr:Gm} (gs:List Nat) (g:Nat) (S:Spec) (res:SV) (hy:FV lr y f fs cap)
  (ho:nth L (oi ord tr.length)=some o) (hop:o.op = .call { callee:=.value y,args:=xs.toArray,argTypes:=ats }) (hd:o.dst=some d) (hrd:DK L o.guard++(vG y++P6 xs)=rd) (hlr:kI (uX l0 tr) rd=lr) (hg:jT L lr o.guard=some true)
  (hx:evs lr xs=some ss) (hΓ:qj (E5 Γ0 tr) gs=Γr) (hf:∀ (u:Array Value) X,(callFunc f u).run P X = .ok (.enter f u) X)
  (BM:∀ α γ w,Holds w0 [] Γr α γ w→Calls P f (bZ α γ fs++(bZ α γ ss++bZ α γ cap)).toArray w (fun e w'=>∃ F,(∀ k,bG (F k)=true)∧e = .returned (den α (upd γ g F) res)∧(∀ X:Nat→Prop,(∀ k,X k→k<w.heap.size∧Ei w k)→S.P X w' F)∧Ex w w'))
  (h:DA P Q n ds w0 cs L ord l0 B0 Γ0 (⟨some d,res,rd,[],gs,none,none,some (g,S)⟩::tr)):DA P Q n ds w0 cs L ord l0 B0 Γ0 tr:=fun ha=>h (by
 subst hΓ hlr
 exact ⟨.call o d g S res rd gs f y fs cap xs ats ss ho hop hd hg hy hx hf BM,ha⟩)
theorem toS {P:Program} {f:FuncId} {args:Array Value} {w:World} {α:Env} {γ:kR} {g:Nat} {res:SV} {S:RS} (h:Calls P f args w (fun e w'=>∃ F,(∀ k,bG (F k)=true)∧e = .returned (den α (upd γ g F) res)∧S.R w' F∧Ex w w')) :
 Calls P f args w (fun e w'=>∃ F,(∀ k,bG (F k)=true)∧e = .returned (den α (upd γ g F) res)∧(∀ X:Nat→Prop,(∀ k,X k→k<w.heap.size∧Ei w k)→S.S.P X w' F)∧Ex w w'):=Calls.mono h fun e w' ⟨F,h1,h2,h3,h4⟩=>⟨F,h1,h2,RS.new h3 h4,h4⟩
theorem nk {tr:Tr} {d:Nat} {o:Oper} {f:FuncId} {y:Operand} {xs:List Operand} {ats:Array TypeId} {ss:List SV} {rd:List Nat} {lr:Fr} (g:Nat) (v:Value)
  (ho:nth L (oi ord tr.length)=some o) (hop:o.op = .call { callee:=.value y,args:=xs.toArray,argTypes:=ats }) (hd:o.dst=some d) (hrd:DK L o.guard++(vG y++P6 xs)=rd) (hlr:kI (uX l0 tr) rd=lr) (hg:jT L lr o.guard=some true)
  (hy:ev lr y=some (.v (.func (.func f) #[] #[]))) (hx:evs lr xs=some ss) (hf:∀ (u:Array Value) X,(callFunc f u).run P X = .ok (.enter f u) X)
  (BM:∀ α γ w,Calls P f (bZ α γ ss).toArray w (fun e w'=>e = .returned v∧Ex w w'))
  (h:DA P Q n ds w0 cs L ord l0 B0 Γ0 (⟨some d,.v v,rd,[],[],none,none,some (g,TR.S)⟩::tr)):DA P Q n ds w0 cs L ord l0 B0 Γ0 tr :=
 xy [] g TR.S (.v v) (.inr ⟨rfl,rfl,hy⟩) ho hop hd hrd hlr hg hx rfl hf (fun α γ w _=>Calls.mono (uJ (BM α γ w)) fun e w' ⟨h1,h2⟩=>⟨fun _=>.bool false,fun _=>rfl,h1,RS.new trivial h2,h2⟩) h
theorem kS {r:nu} {i m d:Nat} {o:Oper} {f:FuncId} {y:Operand} {fs cap:List SV} {xs:List Operand} {ats:Array TypeId} {ss:List SV} (g:Nat) (S:RS) (res:SV)
  (ho:nth L i=some o) (hop:o.op = .call { callee:=.value y,args:=xs.toArray,argTypes:=ats }) (hd:o.dst=some d) (hg:jT L l o.guard=some true) (hy:ev l y=some (.f f fs cap)) (hx:evs l xs=some ss) (hfr:fresh g l B Γ=true) (hf:∀ (u:Array Value) X,(callFunc f u).run P X = .ok (.enter f u) X)
  (BM:∀ α γ w,Holds w0 B Γ α γ w→Calls P f (bZ α γ fs++(bZ α γ ss++bZ α γ cap)).toArray w (fun e w'=>∃ F,(∀ k,bG (F k)=true)∧e = .returned (den α (upd γ g F) res)∧S.R w' F∧Ex w w'))
  (h:HA P Q n ds w0 cs L r ((d,res)::l) B ((g,S.S)::Γ)):HA P Q n ds w0 cs L ((false,i,m)::r) l B Γ:=fun α γ w hH=>by
 obtain ⟨h1,h2,h3⟩:=mM hfr
 refine gY ho hop hd (gy hg α γ) (bT hy) (xz hx) hf (Calls.mono (BM α γ w hH) ?_)
 rintro e w' ⟨F,hF,rfl,hR,hE⟩
 have DF:=hH.ext hE
 have hA:=h α (upd γ g F) w' (DF.add g S.S F h2 hF ⟨hR,DF.noU⟩ h3)
 rw [qm,mO l h1] at hA
 exact ⟨_,rfl,trivial,hA⟩
theorem Ej {tr:Tr} {d:Nat} {o:Oper} {x:Operand} {t e:TypeId} {g k:Nat} {S:RS} {rd:List Nat} {lr:Fr} (N:Nat) (hu:P.underlying t=some (.slice e))
  (ho:nth L (oi ord tr.length)=some o) (hop:o.op = .call { callee:=.builtin .len,args:=#[x],argTypes:=#[t] }) (hd:o.dst=some d) (hrd:DK L o.guard++vG x=rd) (hlr:kI (uX l0 tr) rd=lr) (hg:jT L lr o.guard=some true)
  (hx:ev lr x=some (.c g k)) (hΓ:lW (qj (E5 Γ0 tr) [g]) g=some S.S) (hv:∀ w f,S.R w f→∃ A c,f k = .slice A N c)
  (h:DA P Q n ds w0 cs L ord l0 B0 Γ0 (⟨some d,vI ((N:Nat):Int),rd,[],[g],none,none,none⟩::tr)):DA P Q n ds w0 cs L ord l0 B0 Γ0 tr :=
 BN (vI ((N:Nat):Int)) (vG x) [g] ho hd hrd hlr hg rfl (fun α γ w hH ρ hρ=>by
  obtain ⟨A,c,e1⟩:=hv w _ (hH.r g hΓ)
  obtain ⟨d',op',t',ps',af',gu'⟩:=o
  cases hop
  have e:=hρ.dK (bT (α:=α) (γ:=γ) hx)
  have e2:den α γ (.c g k) = .slice A N c:=e1
  rw [e2] at e
  simp [go_sem,e,Builtin.len_,run_underlying hu,den]) h
theorem BO {r:nu} {i m d:Nat} {o:Oper} {x:Operand} {t e:TypeId} {A:Option Addr} {N c:Nat} (hu:P.underlying t=some (.slice e)) (ho:nth L i=some o) (hop:o.op = .call { callee:=.builtin .len,args:=#[x],argTypes:=#[t] }) (hd:o.dst=some d) (hg:jT L l o.guard=some true) (hx:ev l x=some (.v (.slice A N c)))
  (h:HA P Q n ds w0 cs L r ((d,vI ((N:Nat):Int))::l) B Γ):HA P Q n ds w0 cs L ((false,i,m)::r) l B Γ:=fun α γ w hH =>
 P7 (A:=A) (c:=c) hu trivial ho hop hd (gy hg α γ) (bT hx) (h α γ w hH)
theorem wu {r:nu} {i m d:Nat} {o:Oper} {x y:Operand} {t:TypeId} {v j p:Value} (h1:∀ X,(Instr.indexAt t v j).run P X = .ok p X) (ho:nth L i=some o) (hop:o.op = .indexAddr t x y) (hd:o.dst=some d) (hg:jT L l o.guard=some true) (hx:ev l x=some (.v v)) (hy:ev l y=some (.v j))
  (h:HA P Q n ds w0 cs L r ((d,.v p)::l) B Γ):HA P Q n ds w0 cs L ((false,i,m)::r) l B Γ:=sJ (.v p) ho hd hg (fun α γ w _ ρ hρ=>by
 unfold execOp
 rw [hop]
 refine dI _ w ?_
 rw [hρ.dK (bT hx),hρ.dK (bT hy)]
 exact h1 w) h
theorem ww {r:nu} {i m d:Nat} {o:Oper} {x:Operand} {t:TypeId} {v p:Value} (h1:∀ X,Ex w0 X→(Instr.loadAt t p).run P X = .ok v X) (ho:nth L i=some o) (hop:o.op = .load t x) (hd:o.dst=some d) (hg:jT L l o.guard=some true) (hx:ev l x=some (.v p))
  (h:HA P Q n ds w0 cs L r ((d,.v v)::l) B Γ):HA P Q n ds w0 cs L ((false,i,m)::r) l B Γ:=sJ (.v v) ho hd hg (fun α γ w hH ρ hρ=>by
 unfold execOp
 rw [hop]
 refine dI _ w ?_
 rw [hρ.dK (bT hx)]
 exact h1 w hH.ex) h
theorem Wv {r:nu} {i m d:Nat} {o:Oper} {x y:Operand} {t:Array TypeId} {k:IntKind} {a b c:Int} (hc:max a b=c) (ho:nth L i=some o) (hop:o.op = .call { callee:=.builtin .max,args:=#[x,y],argTypes:=t }) (hd:o.dst=some d) (hg:jT L l o.guard=some true) (hx:ev l x=some (.v (.int k a))) (hy:ev l y=some (.v (.int k b)))
  (h:HA P Q n ds w0 cs L r ((d,.v (.int k c))::l) B Γ):HA P Q n ds w0 cs L ((false,i,m)::r) l B Γ:=sJ (.v (.int k c)) ho hd hg (fun α γ w hH ρ hρ=>by
 subst hc
 unfold execOp;rw [hop]
 refine dI (Builtin.max_ _ _ (#[x,y].map ρ)) w ?_
 have e1:ρ x = .int k a:=hρ.dK (bT (α:=α) (γ:=γ) hx)
 have e2:ρ y = .int k b:=hρ.dK (bT (α:=α) (γ:=γ) hy)
 rw [show #[x,y].map ρ=#[.int k a,.int k b] from by simp [e1,e2]]
 have e:max a b=if b>a then b else a:=by split<;>omega
 rw [show den α γ (.v (.int k (max a b))) = .int k (max a b) from rfl]
 rw [e]
 exact run_max_int2 _ _ _ _ _ _ _) h
theorem kV {r:nu} {i m d:Nat} {o:Oper} {x:Operand} {t:TypeId} {p:Value} (s:SV) (h1:∀ α γ X,Ex w0 X→(Instr.loadAt t p).run P X = .ok (den α γ s) X) (ho:nth L i=some o) (hop:o.op = .load t x) (hd:o.dst=some d) (hg:jT L l o.guard=some true) (hx:ev l x=some (.v p))
  (h:HA P Q n ds w0 cs L r ((d,s)::l) B Γ):HA P Q n ds w0 cs L ((false,i,m)::r) l B Γ:=sJ s ho hd hg (fun α γ w hH ρ hρ=>by
 unfold execOp
 rw [hop]
 refine dI _ w ?_
 rw [hρ.dK (bT hx)]
 exact h1 α γ w hH.ex) h
theorem aaH {r:nu} {i m d:Nat} {o:Oper} {x:Operand} {t:TypeId} {T:TI} {N q k off q':Nat} (hT:E8 P T) (hk:T.off t k=some off) (hq:q+off=q') (ho:nth L i=some o) (hop:o.op = .fieldAddr t x k) (hd:o.dst=some d) (hg:jT L l o.guard=some true) (hx:ev l x=some (.v (.pointer (some ⟨N,q,none⟩))))
  (h:HA P Q n ds w0 cs L r ((d,.v (.pointer (some ⟨N,q',none⟩)))::l) B Γ):HA P Q n ds w0 cs L ((false,i,m)::r) l B Γ:=sJ (.v (.pointer (some ⟨N,q',none⟩))) ho hd hg (fun α γ w hH ρ hρ=>by
 subst hq
 unfold execOp
 rw [hop]
 refine dI _ w ?_
 rw [hρ.dK (bT hx)]
 exact hT.off t k off hk N q w) h
theorem Ww {r:nu} {i m d:Nat} {o:Oper} {f:FuncId} {xs:List Operand} {ss:List SV} (ho:nth L i=some o) (hop:o.op = .makeFunc (.func f) ([]:List Operand).toArray xs.toArray) (hd:o.dst=some d) (hg:jT L l o.guard=some true) (hx:evs l xs=some ss)
  (h:HA P Q n ds w0 cs L r ((d,.f f [] ss)::l) B Γ):HA P Q n ds w0 cs L ((false,i,m)::r) l B Γ:=fun α γ w hH =>
 nZ (fs:=[]) trivial ho hop hd (gy hg α γ) rfl (xz hx) (h α γ w hH)
theorem NJ {ρ:Operand→Value} {o:Oper} {t:TypeId} {xs:Array (Nat × Operand)} {pl:List (Nat × Value)} {cells:Array Value} (hop:o.op = .build t xs) (hp:(xs.toList.map fun x=>(x.1,ρ x.2))=pl) (h:P.built t pl=some cells) (X:World):(execOp ρ o).run P X = .ok (.value (.agg cells)) X:=by
 unfold execOp
 rw [hop]
 refine dI _ X ?_
 show (Instr.build t (xs.map fun x=>(x.1,ρ x.2))).run P X=_
 exact run_build X t _ cells (by rw [Array.toList_map,hp];exact h)
theorem nQ {r:nu} {i m d:Nat} {o:Oper} (s:SV) (ho:nth L i=some o) (hd:o.dst=some d) (hg:jT L l o.guard=some true) (hk:∀ α γ,known (gI α γ l) o.op=true)
  (he:∀ α γ,(∀ g k,bG (γ g k)=true)→∀ X,(execOp (JQ (gI α γ l)) o).run P X = .ok (.value (den α γ s)) X) (h:HA P Q n ds w0 cs L r ((d,s)::l) B Γ):HA P Q n ds w0 cs L ((false,i,m)::r) l B Γ :=
 sJ s ho hd hg (fun α γ w hH ρ hρ=>by rw [jI hρ (hk α γ)];exact he α γ hH.sc w) h
theorem aaI {tr:Tr} {d:Nat} {o:Oper} {rd:List Nat} {lr:Fr} (s:SV) (Pw:List Nat) (ho:nth L (oi ord tr.length)=some o) (hd:o.dst=some d) (hrd:DK L o.guard++Pw=rd) (hlr:kI (uX l0 tr) rd=lr) (hg:jT L lr o.guard=some true) (hk:∀ α γ,known (gI α γ lr) o.op=true)
  (he:∀ α γ,(∀ g k,bG (γ g k)=true)→∀ X,(execOp (JQ (gI α γ lr)) o).run P X = .ok (.value (den α γ s)) X)
  (h:DA P Q n ds w0 cs L ord l0 B0 Γ0 (⟨some d,s,rd,[],[],none,none,none⟩::tr)):DA P Q n ds w0 cs L ord l0 B0 Γ0 tr :=
 BN s Pw [] ho hd hrd hlr hg rfl (fun α γ w hH ρ hρ=>by rw [jI hρ (hk α γ)];exact he α γ hH.sc w) h
end
end Go.Proofs.YtgcieamfidoaoaaGreatDoor.Rf
namespace Go.Proofs.YtgcieamfidoaoaaGreatDoor.Rf
open Go Go.RowKit Go.Proofs.YtgcieamfidoaoaaGreatDoor.Pl
set_option maxRecDepth 100000
theorem ad9 (a b c:Value) (h:bG c=true):(Tryz.prog).built 36 [(0,.agg #[a,b]),(1,c)]=some #[a,b,c]:=by
 cases c<;>first | (cases h;done) | kernel_rfl
theorem P8 (k e:Int) (b:Bool) (s:Value) (h:bG s=true):(Tryz.prog).built 26 [(0,.int .i64 k),(1,.bool b),(2,s),(3,.int .i64 e)]=some #[.int .i64 k,.bool b,s,.int .i64 e]:=by
 cases s<;>first | (cases h;done) | kernel_rfl
theorem bF3 (k e:Int) (s:Value) (h:bG s=true):(Tryz.prog).built 26 [(0,.int .i64 k),(2,s),(3,.int .i64 e)]=some #[.int .i64 k,.bool false,s,.int .i64 e]:=by
 cases s<;>first | (cases h;done) | kernel_rfl
end Go.Proofs.YtgcieamfidoaoaaGreatDoor.Rf
