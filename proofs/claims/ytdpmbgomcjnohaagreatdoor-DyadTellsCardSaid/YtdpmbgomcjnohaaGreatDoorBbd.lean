/- Regions that draw their order, walked one operation after another in the text's order. -/
import Derived.Test.YtdpmbgomcjnohaaGreatDoorBbc
import Derived.Test.YtdpmbgomcjnohaaGreatDoorBat
import Derived.Test.YtdpmbgomcjnohaaGreatDoorBav

namespace Go.Proofs.YtdpmbgomcjnohaaGreatDoor.Rf
open Go Go.RowKit Go.Proofs.YtdpmbgomcjnohaaGreatDoor.Pl
set_option linter.all false
set_option maxRecDepth 100000
set_option maxHeartbeats 8000000
mutual
def gsO:SV→List Nat
 | .v _=>[]
 | .p _ _=>[]
 | .c g _=>[g]
 | .a l=>Oc l
 | .t l=>Oc l
 | .f _ fs cap=>Oc fs++Oc cap
def Oc:List SV→List Nat
 | []=>[]
 | x::l=>gsO x++Oc l
end
def AA:Operand→List Nat
 | .tmp t=>[t]
 | _=>[]
def Ye:List Operand→List Nat
 | []=>[]
 | x::l=>AA x++Ye l
def rdO:Op→List Nat
 | .move x=>AA x
 | .assign x=>AA x
 | .pick c x y=>AA c++(AA x++AA y)
 | .extract x _=>AA x
 | .fieldAddr _ x _=>AA x
 | .box _ x=>AA x
 | .load _ x=>AA x
 | .store _ x y=>AA x++AA y
 | _=>[]
def EQ (L:List Oper):Option (Nat × Bool)→List Nat
 | none=>[]
 | some (j,_)=>match nth L j with
  | none=>[]
  | some o=>match o.dst with
   | none=>[]
   | some d=>[d]
def Vf (l:Fr):Op→List Nat
 | .load _ x=>match ev l x with
  | some (.p b _)=>[b]
  | _=>[]
 | .store _ x _=>match ev l x with
  | some (.p b _)=>[b]
  | _=>[]
 | _=>[]
def R6 (T:TI) (L:List Oper) (ord:Option (List Nat)) (l0:Fr) (B0:Bx) (k:Nat) (tr:Tr):Option (It × Nat):=match nth L (oi ord tr.length) with
 | none=>none
 | some o=>match kr (wh l0 tr) (EQ L o.guard++rdO o.op) with
  | lr=>match mW L lr o.guard with
   | none=>none
   | some false=>match o.dst with
    | some d=>some (⟨some d,.v undef,EQ L o.guard++rdO o.op,[],[],none,none,none⟩,k)
    | none=>none
   | some true=>match CR T lr (zQ (RU B0 tr) (Vf lr o.op)) o.op with
    | none=>none
    | some (.pure s)=>match o.dst with
     | some d=>some (⟨some d,s,EQ L o.guard++rdO o.op,Vf lr o.op,[],none,none,none⟩,k)
     | none=>none
    | some (.new t cs)=>match o.dst,qp k cs with
     | some d,true=>some (⟨some d,.p k 0,EQ L o.guard++rdO o.op,Vf lr o.op,[],some (k,t,cs),some k,none⟩,Nat.succ k)
     | _,_=>none
    | some (.put b t cs)=>match o.dst with
     | none=>some (⟨none,.v undef,EQ L o.guard++rdO o.op,Vf lr o.op,[],some (b,t,cs),none,none⟩,k)
     | some _=>none
def Vg (T:TI) (L:List Oper) (ord:Option (List Nat)) (l0:Fr) (B0:Bx):Nat→Nat→Tr→Tr × Nat
 | 0,k,tr=>(tr,k)
 | f+1,k,tr=>match R6 T L ord l0 B0 k tr with
  | some (it,k')=>Vg T L ord l0 B0 f k' (it::tr)
  | none=>(tr,k)
section
variable {P:Program} {Q:Exit→Act→World→Prop} {n:Nat} {ds:List Deferred} {w0:World} {cs:List Code} {l0:Fr} {B0:Bx} {Γ0:Gm} {L:List Oper} {ord:Option (List Nat)}
theorem R7 {T:TI} (hT:IQ P T) {k k':Nat} {tr:Tr} {it:It} (h:R6 T L ord l0 B0 k tr=some (it,k')):FZ P L w0 l0 B0 Γ0 (oi ord tr.length) tr it:=by
 unfold R6 at h
 split at h
 · cases h
 · next o ho =>
   dsimp only at h
   split at h
   · cases h
   · next hg =>
     split at h
     · next d hd=>cases h;exact .skip o d _ ho hd hg
     · cases h
   · next hg =>
     split at h
     · cases h
     · next s hx =>
       split at h
       · next d hd=>cases h;exact .pure o d s _ _ [] ho hd hg fun α γ w hH=>FR hT hH hx
       · cases h
     · next t c hx =>
       split at h
       · next d hd hk=>cases h;exact .new o d _ t c _ _ [] ho hd hg hk fun α γ w hH=>FR hT hH hx
       · cases h
     · next b t c hx =>
       split at h
       · next hd=>cases h;exact .put o b t c _ _ [] (.v undef) ho hd hg fun α γ w hH=>FR hT hH hx
       · cases h
theorem MZ {T:TI} (hT:IQ P T):∀ (f:Nat) {k:Nat} {tr:Tr},Eu P L w0 l0 B0 Γ0 ord tr→Eu P L w0 l0 B0 Γ0 ord (Vg T L ord l0 B0 f k tr).1
 | 0,_,_,h=>h
 | f+1,k,tr,h=>by
  unfold Vg
  split
  · next it k' hx=>exact MZ hT f ⟨R7 hT hx,h⟩
  · exact h
def DA (P:Program) (Q:Exit→Act→World→Prop) (n:Nat) (ds:List Deferred) (w0:World) (cs:List Code) (L:List Oper) (ord:Option (List Nat)) (l0:Fr) (B0:Bx) (Γ0:Gm) (tr:Tr):Prop :=
 Eu P L w0 l0 B0 Γ0 ord tr→∀ α γ w,Holds w0 B0 Γ0 α γ w→G P L (fun _=>True) (Ks P Q cs) n ds L.toArray.size 0 (eG α γ l0) w
theorem bM {id:Nat} (ord:Option (List Nat)) (hm:P.follows .mixedOrders=true) (h:DA P Q n ds w0 cs L ord l0 B0 Γ0 []):HV P Q n ds w0 (.region id L.toArray true::cs) l0 B0 Γ0:=fun α γ w hH =>
 uj (S:=fun _=>True) hm trivial fun _=>h trivial α γ w.drew (hH.ext (Ex.drew w))
theorem aO {T:TI} (hT:IQ P T) (f k:Nat) {k':Nat} {tr tr':Tr} (e:Vg T L ord l0 B0 f k tr=(tr',k')) (h:DA P Q n ds w0 cs L ord l0 B0 Γ0 tr'):DA P Q n ds w0 cs L ord l0 B0 Γ0 tr:=fun ha=>h (by
 have:=MZ hT f (k:=k) ha
 rwa [e] at this)
def V5:List Nat→List Nat→List Nat
 | [],acc=>acc
 | t::ts,acc=>V5 ts (acc++[upto t acc acc.length])
def aed (T:List Nat):=V5 T []
def V6 (n:Nat) (L:List Oper) (ord:Option (List Nat)) (l0:Fr) (B0:Bx) (Γ0:Gm) (full:Tr) (kJ:List Nat):Bool :=
 Nat.beq full.length L.length&&(CB n L&&(CZ ord L.length&&(R3 L.length (tabs L.toArray)&&(Et kJ (uQ (tabs L.toArray) ord L.length L.length) kJ 0&&RZ kJ l0 B0 Γ0 full full))))
theorem dQ {full:Tr} (hk:V6 n L ord l0 B0 Γ0 full (aed (uQ (tabs L.toArray) ord L.length L.length))=true) (hV:HV P Q n ds w0 cs (wh l0 full) (RU B0 full) (Gq Γ0 full)):DA P Q n ds w0 cs L ord l0 B0 Γ0 full:=fun ha α γ w hH=>by
 unfold V6 at hk
 rw [Bool.and_eq_true,Bool.and_eq_true,Bool.and_eq_true,Bool.and_eq_true,Bool.and_eq_true] at hk
 obtain ⟨h1,h2,h5,h6,h3,h4⟩:=hk
 have hz:∀ {X:Type} (base:List (Nat × X)) (xs:List (Option (Nat × X))),sel 0 base xs=base:=by
  intro X base xs
  induction xs with
  | nil=>rfl
  | cons x xs ih =>
   cases x with
   | none=>exact ih
   | some e =>
    unfold sel
    rw [show tb 0 xs.length=false by rw [iZ,Nat.zero_testBit]]
    exact ih
 have Ve:∀ N,rem 0 N=N:=by
  intro N
  induction N with
  | zero=>rfl
  | succ N ih=>unfold rem;rw [ih,Nat.zero_testBit,if_neg (by simp)]
 have h:=Ob (Nat.eq_of_beq_eq_true h1) h2 h5 h6 h3 h4 ha hV L.length 0 0 (Ve _) (fun t _=>by rw [Nat.zero_testBit,Nat.zero_testBit]) (fun j t _ hb=>by rw [Nat.zero_testBit] at hb;cases hb) α γ w
 have e1:NZ 0 B0 full=B0:=hz _ _
 have e2:MO 0 Γ0 full=Γ0:=hz _ _
 have e3:RV 0 l0 full=l0:=hz _ _
 rw [e1,e2,e3] at h
 have:=h hH
 simpa using this
theorem aB {tr:Tr} {d:Nat} {o:Oper} {f:FuncId} {xs:List Operand} {ats:Array TypeId} {ss:List SV} {rd gs:List Nat} {lr:Fr} {Γr:Gm} (g:Nat) (S:RS) (res:SV)
  (ho:nth L (oi ord tr.length)=some o) (hop:o.op = .call { callee:=.value (.func f),args:=xs.toArray,argTypes:=ats }) (hd:o.dst=some d) (hrd:EQ L o.guard++Ye xs=rd) (hlr:kr (wh l0 tr) rd=lr) (hg:mW L lr o.guard=some true)
  (hx:evs lr xs=some ss) (hgs:Oc ss=gs) (hΓ:qK (Gq Γ0 tr) gs=Γr) (hf:∀ (u:Array Value) X,(callFunc f u).run P X = .ok (.enter f u) X)
  (Bl:∀ α γ w,Holds w0 [] Γr α γ w→Calls P f (bU α γ ss).toArray w (fun e w'=>∃ F,(∀ k,bE (F k)=true)∧e = .returned (den α (upd γ g F) res)∧S.R w' F∧Ex w w'))
  (h:DA P Q n ds w0 cs L ord l0 B0 Γ0 (⟨some d,res,rd,[],gs,none,none,some (g,S.S)⟩::tr)):DA P Q n ds w0 cs L ord l0 B0 Γ0 tr:=fun ha=>h (by
 subst hΓ hlr
 exact ⟨.call o d g S res rd gs f xs ats ss ho hop hd hg hx hf Bl,ha⟩)
theorem M0 {tr:Tr} {d:Nat} {o:Oper} {rd:List Nat} {lr:Fr} {Γr:Gm} (s:SV) (SY gs:List Nat) (ho:nth L (oi ord tr.length)=some o) (hd:o.dst=some d) (hrd:EQ L o.guard++SY=rd) (hlr:kr (wh l0 tr) rd=lr) (hg:mW L lr o.guard=some true) (hΓ:qK (Gq Γ0 tr) gs=Γr)
  (hr:∀ α γ w,Holds w0 [] Γr α γ w→∀ ρ,Cons ρ (eG α γ lr)→(execOp ρ o).run P w = .ok (.value (den α γ s)) w)
  (h:DA P Q n ds w0 cs L ord l0 B0 Γ0 (⟨some d,s,rd,[],gs,none,none,none⟩::tr)):DA P Q n ds w0 cs L ord l0 B0 Γ0 tr:=fun ha=>h (by
 subst hΓ hlr
 exact ⟨.pure o d s rd [] gs ho hd hg hr,ha⟩)
theorem vk {tr:Tr} {d:Nat} {o:Oper} {rd gs:List Nat} {lr:Fr} {Γr:Gm} {op:BinOp} {tx ty:TypeId} {x y:Operand} {sx sy:SV} (s:SV) (ho:nth L (oi ord tr.length)=some o) (hop:o.op = .binOp op tx x y ty) (hd:o.dst=some d) (hrd:EQ L o.guard++(AA x++AA y)=rd) (hlr:kr (wh l0 tr) rd=lr) (hg:mW L lr o.guard=some true)
  (hx:ev lr x=some sx) (hy:ev lr y=some sy) (hgs:gsO sx++gsO sy=gs) (hΓ:qK (Gq Γ0 tr) gs=Γr)
  (hr:∀ α γ w,Holds w0 [] Γr α γ w→Bn P op tx x y (den α γ sx) (den α γ sy) w = .ok (den α γ s) w)
  (h:DA P Q n ds w0 cs L ord l0 B0 Γ0 (⟨some d,s,rd,[],gs,none,none,none⟩::tr)):DA P Q n ds w0 cs L ord l0 B0 Γ0 tr:=fun ha=>h (by
 subst hΓ hlr
 refine ⟨.pure o d s rd [] gs ho hd hg fun α γ w hH ρ hρ=>?_,ha⟩
 obtain ⟨dst,op',ty',pos,VD,gu⟩:=o
 cases hop
 refine dK _ w ?_
 rw [hρ.dA (bS hx),hρ.dA (bS hy)]
 exact hr α γ w hH)
def kpF (l:Fr):List Nat→Fr→Fr
 | [],acc=>acc
 | t::ts,acc=>match lk l t with
  | some s=>kpF l ts ((t,s)::acc)
  | none=>kpF l ts acc
def kpB (l:Bx):List Nat→Bx→Bx
 | [],acc=>acc
 | t::ts,acc=>match jO l t with
  | some (u,c)=>kpB l ts ((t,u,c)::acc)
  | none=>kpB l ts acc
def kpG (l:Gm):List Nat→Gm→Gm
 | [],acc=>acc
 | t::ts,acc=>match mH l t with
  | some s=>kpG l ts ((t,s)::acc)
  | none=>kpG l ts acc
theorem F5 {l:Fr}:∀ {ts:List Nat} {acc:Fr},xk acc l→xk (kpF l ts acc) l
 | [],_,h=>h
 | t::ts,acc,h=>by
  unfold kpF
  cases ht:lk l t with
  | none=>exact F5 h
  | some s =>
   refine F5 fun q u hq=>?_
   unfold lk at hq
   cases hb:Nat.beq t q with
   | true =>
    rw [hb] at hq
    obtain rfl:=Nat.eq_of_beq_eq_true hb
    obtain rfl:=Option.some.inj hq
    exact ht
   | false=>rw [hb] at hq;exact h q u hq
theorem F6 {l:Bx}:∀ {ts:List Nat} {acc:Bx},(∀ b x,jO acc b=some x→jO l b=some x)→∀ b x,jO (kpB l ts acc) b=some x→jO l b=some x
 | [],_,h=>h
 | t::ts,acc,h=>by
  unfold kpB
  cases ht:jO l t with
  | none=>exact F6 h
  | some s =>
   obtain ⟨u,c⟩:=s
   refine F6 fun q x hq=>?_
   unfold jO at hq
   cases hb:Nat.beq t q with
   | true =>
    rw [hb] at hq
    obtain rfl:=Nat.eq_of_beq_eq_true hb
    obtain rfl:=Option.some.inj hq
    exact ht
   | false=>rw [hb] at hq;exact h q x hq
theorem F7 {l:Gm}:∀ {ts:List Nat} {acc:Gm},(∀ b x,mH acc b=some x→mH l b=some x)→∀ b x,mH (kpG l ts acc) b=some x→mH l b=some x
 | [],_,h=>h
 | t::ts,acc,h=>by
  unfold kpG
  cases ht:mH l t with
  | none=>exact F7 h
  | some s =>
   refine F7 fun q x hq=>?_
   unfold mH at hq
   cases hb:Nat.beq t q with
   | true =>
    rw [hb] at hq
    obtain rfl:=Nat.eq_of_beq_eq_true hb
    obtain rfl:=Option.some.inj hq
    exact ht
   | false=>rw [hb] at hq;exact h q x hq
theorem xk.look {l l':Fr} (h:xk l l') (α:Env) (γ:j6):∀ t v,Go.Proofs.YtdpmbgomcjnohaaGreatDoor.Pl.look (eG α γ l) t=some v→Go.Proofs.YtdpmbgomcjnohaaGreatDoor.Pl.look (eG α γ l') t=some v:=by
 intro t v hv
 rw [eT] at hv ⊢
 cases hl:lk l t with
 | none=>rw [hl] at hv;cases hv
 | some s=>rw [hl] at hv;rw [h t s hl];exact hv
theorem bN {l l':Fr} {B B':Bx} {Γ Γ':Gm} (a b c:List Nat) (e1:kpF l a []=l') (e2:kpB B b []=B') (e3:kpG Γ c []=Γ') (h:HV P Q n ds w0 cs l' B' Γ'):HV P Q n ds w0 cs l B Γ:=fun α γ w hH=>by
 subst e1 e2 e3
 have:=h α γ w (hH.sub (F6 (by rintro b x h;cases h)) (F7 (by rintro b x h;cases h)))
 exact JR ((F5 (by rintro b x h;cases h)).look α γ) this
end
end Go.Proofs.YtdpmbgomcjnohaaGreatDoor.Rf
/- Facts on naturals, whole numbers, rationals and dyadic numbers; contracts in the walk's form. -/
namespace Go.Proofs.YtdpmbgomcjnohaaGreatDoor.Rf
open Go Go.RowKit Go.Proofs.YtdpmbgomcjnohaaGreatDoor.Pl
set_option linter.all false
set_option maxRecDepth 100000
set_option maxHeartbeats 8000000
theorem ni {w w':World} {v:Value} {xs:List Nat} (h:U w v xs) (hs:w.heap.size≤w'.heap.size) (hk:∀ k,k<w.heap.size→w'.heap[k]?=w.heap[k]?∨RG w k):U w' v xs:=by
 obtain ⟨A,c,rfl,hl,hx,hr⟩:=h
 refine ⟨A,c,rfl,hl,hx,fun h0=>?_⟩
 obtain ⟨ad,hA,hb,hcell⟩:=hr h0
 refine ⟨ad,hA,Nat.lt_of_lt_of_le hb hs,fun j hj=>?_⟩
 rcases hk ad.block hb with e | hn
 · rw [World.cell?_of_block (w:=w) (by rw [aF];exact e)]
   exact hcell j hj
 · exfalso
   have h1:=hcell 0 h0
   unfold World.cell? at h1
   rw [aF] at h1
   cases hq:w.heap[ad.block]? with
   | none=>rw [hq] at h1;simp at h1
   | some ob =>
    rw [hq] at h1
    cases ob with
    | cells cs T m =>
     simp at h1
     exact hn cs T m hq _ (Array.mem_toList_iff.2 (Array.mem_of_getElem? h1.2)) _ rfl
    | _=>simp at h1
def rA (z:Int):RS:=⟨fun w f=>Zn w (.agg #[f 0,f 1]) z,fun ⟨A,c,e,u⟩ hs hk=>⟨A,c,e,ni u hs hk⟩⟩
def l7 (q:Rat) (L M:Nat):RS:=⟨fun w f=>Qn w (.agg #[f 0,f 1,f 2]) q L M,fun ⟨A,c,B,b,e,u,t,z,y⟩ hs hk=>⟨A,c,B,b,e,ni u hs hk,ni t hs hk,z,y⟩⟩
def oq (x:Rat) (L:Nat) (lo hi:Int):RS:=⟨fun w f=>Dn w (.agg #[f 0,f 1,f 2]) x L lo hi,fun ⟨m,e,A,c,e1,u,d⟩ hs hk=>⟨m,e,A,c,e1,ni u hs hk,d⟩⟩
def IR (p:Int→Prop):RS:=⟨fun w f=>∃ z,f 0 = .int .i64 z∧p z,fun h _ _=>h⟩
def TR:RS:=⟨fun _ _=>True,fun h _ _=>h⟩
def tZ (l:List Value):Nat→Value:=fun k=>(qw l k).getD (.bool false)
theorem dI {l:List Value} (h:l.all bE=true) (k:Nat):bE (tZ l k)=true:=by
 unfold tZ
 cases hn:qw l k with
 | none=>rfl
 | some x =>
  rw [oZ] at hn
  rw [List.all_eq_true] at h
  exact h x (List.mem_of_getElem? hn)
section
variable {P:Program} {f:FuncId} {args:Array Value} {w:World} {α:Env} {γ:j6}
theorem qc {x:Rat} {L:Nat} {lo hi:Int} (g:Nat) (h:Calls P f args w (fun e w'=>∃ u,e = .returned u∧Dn w' u x L lo hi∧Ex w w')) :
  Calls P f args w (fun e w'=>∃ F,(∀ k,bE (F k)=true)∧e = .returned (den α (upd γ g F) (.a [.c g 0,.c g 1,.c g 2]))∧(oq x L lo hi).R w' F∧Ex w w'):=Calls.mono h fun e w' ⟨u,he,⟨m,ee,A,c,hu,hU,hd⟩,hE⟩=>by
 subst hu he
 refine ⟨tZ [.bool (decide (m<0)),.slice A (limbs m.natAbs).length c,.int .i64 ee],dI rfl,?_,⟨m,ee,A,c,rfl,hU,hd⟩,hE⟩
 simp only [den,bU,upd_same];rfl
theorem mK {x:Rat} {L:Nat} {lo hi:Int} (g:Nat) (h:Calls P f args w (fun e w'=>∃ u,e = .returned (.tuple #[u,.int .i64 0])∧Dn w' u x L lo hi∧Ex w w')) :
  Calls P f args w (fun e w'=>∃ F,(∀ k,bE (F k)=true)∧e = .returned (den α (upd γ g F) (.t [.a [.c g 0,.c g 1,.c g 2],.v (.int .i64 0)]))∧(oq x L lo hi).R w' F∧Ex w w'):=Calls.mono h fun e w' ⟨u,he,⟨m,ee,A,c,hu,hU,hd⟩,hE⟩=>by
 subst hu he
 refine ⟨tZ [.bool (decide (m<0)),.slice A (limbs m.natAbs).length c,.int .i64 ee],dI rfl,?_,⟨m,ee,A,c,rfl,hU,hd⟩,hE⟩
 simp only [den,bU,upd_same];rfl
theorem eZ {q:Rat} {L M:Nat} (g:Nat) (h:Calls P f args w (fun e w'=>∃ u,e = .returned u∧Qn w' u q L M∧Ex w w')) :
  Calls P f args w (fun e w'=>∃ F,(∀ k,bE (F k)=true)∧e = .returned (den α (upd γ g F) (.a [.c g 0,.c g 1,.c g 2]))∧(l7 q L M).R w' F∧Ex w w'):=Calls.mono h fun e w' ⟨u,he,⟨A,c,B,b,hu,hU,hT,hz,hy⟩,hE⟩=>by
 subst hu he
 refine ⟨tZ [.bool (decide (q.num<0)),.slice A (limbs q.num.natAbs).length c,.slice B (limbs q.den).length b],dI rfl,?_,⟨A,c,B,b,rfl,hU,hT,hz,hy⟩,hE⟩
 simp only [den,bU,upd_same];rfl
theorem dx {z:Int} (g:Nat) (h:Calls P f args w (fun e w'=>∃ u,e = .returned u∧Zn w' u z∧Ex w w')) :
  Calls P f args w (fun e w'=>∃ F,(∀ k,bE (F k)=true)∧e = .returned (den α (upd γ g F) (.a [.c g 0,.c g 1]))∧(rA z).R w' F∧Ex w w'):=Calls.mono h fun e w' ⟨u,he,⟨A,c,hu,hU⟩,hE⟩=>by
 subst hu he
 refine ⟨tZ [.bool (decide (z<0)),.slice A (limbs z.natAbs).length c],dI rfl,?_,⟨A,c,rfl,hU⟩,hE⟩
 simp only [den,bU,upd_same];rfl
theorem nZ {p:Int→Prop} (g:Nat) (h:Calls P f args w (fun e w'=>∃ k,e = .returned (.int .i64 k)∧p k∧Ex w w')) :
  Calls P f args w (fun e w'=>∃ F,(∀ k,bE (F k)=true)∧e = .returned (den α (upd γ g F) (.c g 0))∧(IR p).R w' F∧Ex w w'):=Calls.mono h fun e w' ⟨k,he,hp,hE⟩=>by
 subst he
 refine ⟨tZ [.int .i64 k],dI rfl,?_,⟨k,rfl,hp⟩,hE⟩
 simp only [den,bU,upd_same];rfl
theorem Dx {v:Value} (g:Nat) (h:Calls P f args w (fun e w'=>e = .returned v∧Ex w w')) :
 Calls P f args w (fun e w'=>∃ F,(∀ k,bE (F k)=true)∧e = .returned (den α (upd γ g F) (.v v))∧TR.R w' F∧Ex w w'):=Calls.mono h fun e w' ⟨he,hE⟩=>⟨fun _=>.bool false,fun _=>rfl,he,trivial,hE⟩
end
section
variable {P:Program} {Q:Exit→Act→World→Prop} {n:Nat} {ds:List Deferred} {w0:World} {cs:List Code} {l:Fr} {B:Bx} {Γ:Gm} {L:List Oper}
theorem fA {r:zW} {i m d:Nat} {o:Oper} {f:FuncId} {xs:List Operand} {ats:Array TypeId} {ss:List SV} (g:Nat) (S:RS) (res:SV)
  (ho:nth L i=some o) (hop:o.op = .call { callee:=.value (.func f),args:=xs.toArray,argTypes:=ats }) (hd:o.dst=some d) (hg:mW L l o.guard=some true) (hx:evs l xs=some ss) (hfr:fresh g l B Γ=true) (hf:∀ (u:Array Value) X,(callFunc f u).run P X = .ok (.enter f u) X)
  (Bl:∀ α γ w,Holds w0 B Γ α γ w→Calls P f (bU α γ ss).toArray w (fun e w'=>∃ F,(∀ k,bE (F k)=true)∧e = .returned (den α (upd γ g F) res)∧S.R w' F∧Ex w w'))
  (h:HA P Q n ds w0 cs L r ((d,res)::l) B ((g,S.S)::Γ)):HA P Q n ds w0 cs L ((false,i,m)::r) l B Γ :=
 Va (X:=Unit) g (fun _=>S) (fun _=>res) (fun _=>True) ho hop hd hg hx hfr hf (fun α γ w hH=>Calls.mono (Bl α γ w hH) fun e w' ⟨F,h1,h2,h3,h4⟩=>⟨(),F,h1,h2,h3,trivial,h4⟩) fun _ _=>h
theorem lN {ord:Option (List Nat)} {l0:Fr} {B0:Bx} {Γ0:Gm} {tr:Tr} {d:Nat} {o:Oper} {x y:Operand} {rd:List Nat} {lr:Fr} {t e:TypeId} {k b q j s:Nat} {z:Int} {kd:IntKind} (hu:P.underlying t=some (.array k e)) (hs:(P.info? e).map (·.size)=some s) (hz:z=(j:Int)) (hj:j<k) (ho:nth L (oi ord tr.length)=some o) (hop:o.op = .indexAddr t x y) (hd:o.dst=some d)
  (hrd:EQ L o.guard++(AA x++AA y)=rd) (hlr:kr (wh l0 tr) rd=lr) (hg:mW L lr o.guard=some true) (hx:ev lr x=some (.p b q)) (hy:ev lr y=some (.v (.int kd z))) {q':Nat} (hq:q+j*s=q')
  (h:DA P Q n ds w0 cs L ord l0 B0 Γ0 (⟨some d,.p b q',rd,[],[],none,none,none⟩::tr)):DA P Q n ds w0 cs L ord l0 B0 Γ0 tr:=by
 subst hq
 refine M0 (.p b (q+j*s)) (AA x++AA y) [] ho hd hrd hlr hg rfl (fun α γ w hH ρ hρ=>?_) h
 subst hz
 unfold execOp
 rw [hop]
 refine dK _ w ?_
 rw [hρ.dA (bS hx),hρ.dA (bS hy)]
 have h0:(0:Int)≤(j:Int)∧(j:Int)<(k:Int):=by omega
 obtain ⟨inf,hi,hz⟩:=Option.map_eq_some_iff.1 hs
 subst hz
 simp [den,Instr.indexAt,run_underlying hu,asIntOf,h0,hj,sizeOf,typeInfo,hi,Result.andThen,Instr.sureAddr,Addr.add_mid]
end
end Go.Proofs.YtdpmbgomcjnohaaGreatDoor.Rf
/- More steps: lengths, conversions, signs; loops of few rounds; cuts; what is known of the types. -/
namespace Go.Proofs.YtdpmbgomcjnohaaGreatDoor.Rf
open Go Go.RowKit Go.Proofs.YtdpmbgomcjnohaaGreatDoor.Pl
set_option linter.all false
set_option maxRecDepth 100000
set_option maxHeartbeats 8000000
section
variable {P:Program} {Q:Exit→Act→World→Prop} {n:Nat} {ds:List Deferred} {cs:List Code} {l:List (Nat × Value)} {w:World}
def Ea (P:Program) (Q:Exit→Act→World→Prop) (n:Nat) (ds:List Deferred) (cs:List Code) (c:Code):Nat→List (Nat × Value)→World→Prop
 | 0,l,w=>Pl.V P (Exit.then (fun _ _=>False) (Ks P Q cs)) n ds [c] l w
 | k+1,l,w=>Pl.V P (Exit.then (fun a' w'=>∃ l',Ag n ds a' l'∧Ea P Q n ds cs c k l' w') (Ks P Q cs)) n ds [c] l w
end
section
variable {P:Program} {Q:Exit→Act→World→Prop} {n:Nat} {ds:List Deferred} {w0:World} {cs:List Code} {l:Fr} {B:Bx} {Γ:Gm} {L:List Oper}
def HU (P:Program) (Q:Exit→Act→World→Prop) (n:Nat) (ds:List Deferred) (w0:World) (cs:List Code) (c:Code) (k:Nat) (l:Fr) (B:Bx) (Γ:Gm):Prop:=∀ α γ w,Holds w0 B Γ α γ w→Ea P Q n ds cs c k (eG α γ l) w
def iK (m e:Int):RS:=⟨fun w f=>f 0 = .bool (decide (m<0))∧f 2 = .int .i64 e∧(∃ A c,f 1 = .slice A (limbs m.natAbs).length c)∧Un w (f 1) m.natAbs,fun ⟨h1,h2,h3,u⟩ hs hk=>⟨h1,h2,h3,ni u hs hk⟩⟩
theorem iK.dn {w:World} {f:Nat→Value} {m e lo hi:Int} {x:Rat} {L:Nat} (h:(iK m e).R w f) (d:Dd m e x L lo hi):(oq x L lo hi).R w f:=by
 obtain ⟨h1,h2,⟨A,c,h3⟩,u⟩:=h
 rw [h3] at u
 exact ⟨m,e,A,c,by rw [h1,h2,h3],u,d⟩
end
section
variable {P:Program} {T:TypeId} {x y:Operand} {w:World} {f:Nat→Value} {p:Int→Prop}
theorem RF (h:(IR p).R w f) {b:Int} (hp:∀ z,p z→z=b):Bn P .eql T x y (f 0) (.int .i64 b) w = .ok (.bool true) w:=by
 obtain ⟨z,e,hz⟩:=h;rw [e];exact ed (hp z hz) w
theorem yf (a b:Int) (X:World):Bn P .lss T x y (.int .i64 a) (.int .i64 b) X = .ok (.bool (decide (a<b))) X:=by
 by_cases h:a<b
 · rw [decide_eq_true h];exact kZ h X
 · rw [decide_eq_false h];exact jG h X
theorem X0 (a b:Int) (X:World):Bn P .geq T x y (.int .i64 a) (.int .i64 b) X = .ok (.bool (decide (a≥b))) X:=by
 by_cases h:a≥b
 · rw [decide_eq_true h];exact iP h X
 · rw [decide_eq_false h];exact jm h X
theorem pI (b:Bool) (X:World):(Op.unary .not (.bool b)).run P X = .ok (.bool (!b)) X:=by cases b<;>rfl
theorem iI {s:TypeId} {fields:Array Field} {k:Nat} {fd:Field} {m o:Nat} (hu:P.underlying s=some (.struct fields)) (hf:fields[k]?=some fd) (hs:(P.info? fd.type).map (·.size)=some (m+1)) (ho:fd.offset=o) (N q:Nat) (X:World):(Instr.fieldAt s (.pointer (some ⟨N,q,none⟩)) k).run P X = .ok (.pointer (some ⟨N,q+o,none⟩)) X:=by
 subst ho
 obtain ⟨inf,hi,hz⟩:=Option.map_eq_some_iff.1 hs
 simp [Instr.fieldAt,run_underlying hu,hf,Instr.sureAddr,fieldPlace,sizeOf,typeInfo,hi,hz,Result.andThen,Addr.add_mid]
end
end Go.Proofs.YtdpmbgomcjnohaaGreatDoor.Rf
/- Conditions that a fact leaves open, facts under other names, and contracts of dyadic numbers by facts alone. -/
namespace Go.Proofs.YtdpmbgomcjnohaaGreatDoor.Rf
open Go Go.RowKit Go.Proofs.YtdpmbgomcjnohaaGreatDoor.Pl
set_option linter.all false
set_option maxRecDepth 100000
set_option maxHeartbeats 8000000
section
variable {P:Program} {Q:Exit→Act→World→Prop} {n:Nat} {ds:List Deferred} {w0:World} {cs:List Code} {l:Fr} {B:Bx} {Γ:Gm} {L:List Oper}
theorem ad6 {ord:Option (List Nat)} {l0:Fr} {B0:Bx} {Γ0:Gm} {tr:Tr} {d:Nat} {o:Oper} {rd:List Nat} {lr:Fr} (s:SV) (SY:List Nat) (ho:nth L (oi ord tr.length)=some o) (hd:o.dst=some d) (hrd:EQ L o.guard++SY=rd) (hlr:kr (wh l0 tr) rd=lr) (hg:mW L lr o.guard=some true)
  (hk:∀ α γ,known (eG α γ lr) o.op=true) (he:∀ α γ X,(execOp (L9 (eG α γ lr)) o).run P X = .ok (.value (den α γ s)) X) (h:DA P Q n ds w0 cs L ord l0 B0 Γ0 (⟨some d,s,rd,[],[],none,none,none⟩::tr)):DA P Q n ds w0 cs L ord l0 B0 Γ0 tr :=
 M0 s SY [] ho hd hrd hlr hg rfl (fun α γ w _ ρ hρ=>by rw [ku hρ (hk α γ)];exact he α γ w) h
theorem oI {ord:Option (List Nat)} {l0:Fr} {B0:Bx} {Γ0:Gm} {tr:Tr} {d:Nat} {o:Oper} {rd:List Nat} {lr:Fr} {x:Operand} {u:UnOp} {t:TypeId} {a:Value} (v:Value) (ho:nth L (oi ord tr.length)=some o) (hop:o.op = .unOp u t x) (hd:o.dst=some d) (hrd:EQ L o.guard++AA x=rd) (hlr:kr (wh l0 tr) rd=lr) (hg:mW L lr o.guard=some true)
  (hx:ev lr x=some (.v a)) (hr:∀ X,(Op.unary u a).run P X = .ok v X) (h:DA P Q n ds w0 cs L ord l0 B0 Γ0 (⟨some d,.v v,rd,[],[],none,none,none⟩::tr)):DA P Q n ds w0 cs L ord l0 B0 Γ0 tr :=
 M0 (.v v) (AA x) [] ho hd hrd hlr hg rfl (fun α γ w _ ρ hρ=>by
  unfold execOp
  rw [hop]
  refine dK _ w ?_
  rw [hρ.dA (bS hx)]
  exact hr w) h
theorem lQ {f:FuncId} {args:Array Value} {w:World} {α:Env} {γ:j6} {p:Prop} {i:Decidable p} (g:Nat) (hp:p) (h:Calls P f args w (fun e w'=>e = .returned (.bool (decide p))∧Ex w w')) :
 Calls P f args w (fun e w'=>∃ F,(∀ k,bE (F k)=true)∧e = .returned (den α (upd γ g F) (.v (.bool true)))∧TR.R w' F∧Ex w w'):=Dx g (by rw [decide_eq_true hp] at h;exact h)
theorem TV {f:FuncId} {args:Array Value} {w:World} {α:Env} {γ:j6} {p:Prop} {i:Decidable p} (g:Nat) (hp:¬ p) (h:Calls P f args w (fun e w'=>e = .returned (.bool (decide p))∧Ex w w')) :
 Calls P f args w (fun e w'=>∃ F,(∀ k,bE (F k)=true)∧e = .returned (den α (upd γ g F) (.v (.bool false)))∧TR.R w' F∧Ex w w'):=Dx g (by rw [decide_eq_false hp] at h;exact h)
end
theorem Nu {f:FuncId} {args:Array Value} {w:World} {α:Env} {γ:j6} {P:Program} {v:Value} (s:SV) (g:Nat) (hs:∀ α γ,den α γ s=v) (h:Calls P f args w (fun e w'=>e = .returned v∧Ex w w')) :
 Calls P f args w (fun e w'=>∃ F,(∀ k,bE (F k)=true)∧e = .returned (den α (upd γ g F) s)∧TR.R w' F∧Ex w w'):=Calls.mono h fun e w' ⟨he,hE⟩=>⟨fun _=>.bool false,fun _=>rfl,by rw [hs];exact he,trivial,hE⟩
def YA (z:Int) (K:Nat):RS:=⟨fun w f=>Zn w (.agg #[f 0,f 1]) z∧Sz z K,fun ⟨⟨A,c,e,u⟩,hz⟩ hs hk=>⟨⟨A,c,e,ni u hs hk⟩,hz⟩⟩
theorem G9 {P:Program} {f:FuncId} {args:Array Value} {w:World} {α:Env} {γ:j6} {z:Int} {K:Nat} (g:Nat) (hz:Sz z K) (h:Calls P f args w (fun e w'=>∃ u,e = .returned u∧Zn w' u z∧Ex w w')) :
 Calls P f args w (fun e w'=>∃ F,(∀ k,bE (F k)=true)∧e = .returned (den α (upd γ g F) (.a [.c g 0,.c g 1]))∧(YA z K).R w' F∧Ex w w'):=Calls.mono (dx (α:=α) (γ:=γ) g h) fun e w' ⟨F,h1,h2,h3,h4⟩=>⟨F,h1,h2,⟨h3,hz⟩,h4⟩
theorem jc {P:Program} {f:FuncId} {args:Array Value} {w:World} {α:Env} {γ:j6} {m e:Int} (g:Nat) (h:Calls P f args w (fun ev w'=>∃ A c,ev = .returned (.agg #[.bool (decide (m<0)),.slice A (limbs m.natAbs).length c,.int .i64 e])∧Un w' (.slice A (limbs m.natAbs).length c) m.natAbs∧Ex w w')) :
  Calls P f args w (fun ev w'=>∃ F,(∀ k,bE (F k)=true)∧ev = .returned (den α (upd γ g F) (.a [.c g 0,.c g 1,.c g 2]))∧(iK m e).R w' F∧Ex w w'):=Calls.mono h fun ev w' ⟨A,c,he,u,hE⟩=>by
 subst he
 refine ⟨tZ [.bool (decide (m<0)),.slice A (limbs m.natAbs).length c,.int .i64 e],dI rfl,?_,⟨rfl,rfl,⟨A,c,rfl⟩,u⟩,hE⟩
 simp only [den,bU,upd_same];rfl
theorem oD {m e:Int} (h:Dy.Can m e) (hm:m.natAbs<4294967296):Dd m e (Dy.dv m e) 1 e e:=⟨h,rfl,Sz.lit hm (by decide),Int.le_refl _,Int.le_refl _⟩
theorem bH {w:World} {f:Nat→Value} {q:Rat} {L M:Nat} (h:(l7 q L M).R w f):Zn w (.agg #[f 0,f 1]) q.num∧Un w (f 1) q.num.natAbs∧Un w (f 2) q.den∧Sz q.num L∧Sn q.den M:=by
 obtain ⟨A,c,B,b,e,u,t,z,y⟩:=h
 have e2:=Array.mk.inj (Value.agg.inj e)
 simp only [List.cons.injEq,and_true] at e2
 rw [e2.1,e2.2.1,e2.2.2]
 exact ⟨⟨A,c,rfl,u⟩,u,t,z,y⟩
end Go.Proofs.YtdpmbgomcjnohaaGreatDoor.Rf
/- What is known of the types of stage 10. -/
namespace Go.Proofs.YtdpmbgomcjnohaaGreatDoor.Rf
open Go Go.RowKit Go.Proofs.YtdpmbgomcjnohaaGreatDoor.Pl
set_option linter.all false
set_option maxRecDepth 100000
set_option maxHeartbeats 8000000
def R8:List SV→Bool
 | []=>true
 | .v x::l=>bE x&&R8 l
 | _=>false
theorem gP:∀ {l:List SV},R8 l=true→∀ α γ,∀ c∈bU α γ l,bE c=true
 | [],_,_,_,c,hc=>by cases hc
 | .v x::l,h,α,γ,c,hc=>by
  have h1:(bE x&&R8 l)=true:=h
  rw [Bool.and_eq_true] at h1
  rcases List.mem_cons.1 (show c∈x::bU α γ l from hc) with rfl | hc
  · exact h1.1
  · exact gP h1.2 α γ c hc
def tyZ:TypeId→Option (List SV)
 | 4 => some [.v (.bool false)]
 | 3 => some [.v (.int .i64 0)]
 | 22 => some [.v (.slice none 0 0)]
 | 47 => some [.v (.int .i64 0)]
 | 61 => some [.v (.int .u16 0)]
 | 90 => some [.v (.nilFunc)]
 | 24 => some [.v (.bool false),.v (.slice none 0 0)]
 | 41 => some [.v (.bool false),.v (.slice none 0 0),.v (.slice none 0 0)]
 | 26 => some [.v (.bool false),.v (.slice none 0 0),.v (.int .i64 0)]
 | 116 => some [.v (.bool false),.v (.slice none 0 0),.v (.bool false),.v (.int .i64 0)]
 | 92 => some [.v (.nilFunc)]
 | 93 => some [.v (.nilFunc),.v (.nilFunc),.v (.nilFunc),.v (.nilFunc),.v (.nilFunc)]
 | 62 => some [.v (.bool false),.v (.slice none 0 0),.v (.int .i64 0),.v (.bool false),.v (.slice none 0 0),.v (.int .i64 0),.v (.bool false),.v (.slice none 0 0),.v (.int .i64 0),.v (.bool false),.v (.slice none 0 0),.v (.int .i64 0),.v (.bool false),.v (.slice none 0 0),.v (.int .i64 0)]
 | 44 => some [.v (.int .i64 0),.v (.int .i64 0)]
 | 70 => some [.v (.int .u16 0),.v (.int .u16 0)]
 | _=>none
def tyN:TypeId→Option (Nat × Bool)
 | 4 => some (1,false)
 | 3 => some (1,false)
 | 22 => some (1,false)
 | 47 => some (1,false)
 | 61 => some (1,false)
 | 90 => some (1,false)
 | 24 => some (2,true)
 | 41 => some (3,true)
 | 26 => some (3,true)
 | 116 => some (4,true)
 | 92 => some (1,true)
 | 93 => some (5,true)
 | 62 => some (15,true)
 | 44 => some (2,true)
 | 70 => some (2,true)
 | _=>none
def tyO:TypeId→Nat→Option Nat
 | 24,0=>some 0
 | 24,1=>some 1
 | 41,0=>some 0
 | 41,1=>some 2
 | 26,0=>some 0
 | 26,1=>some 2
 | 116,0=>some 0
 | 116,1=>some 2
 | 116,2=>some 3
 | 92,0=>some 0
 | _,_=>none
def tI:TI:=⟨tyZ,tyN,tyO⟩
theorem aK:IQ Tryz.prog tI where
 zero t cs h:=by
  have h1:tyZ t=some cs:=h
  unfold tyZ at h1
  split at h1
  · cases h1;exact ⟨.bool false,by kernel_rfl,fun _ _=>rfl,gP rfl,fun _=>rfl⟩
  · cases h1;exact ⟨.int .i64 0,by kernel_rfl,fun _ _=>rfl,gP rfl,fun _=>rfl⟩
  · cases h1;exact ⟨.slice none 0 0,by kernel_rfl,fun _ _=>rfl,gP rfl,fun _=>rfl⟩
  · cases h1;exact ⟨.int .i64 0,by kernel_rfl,fun _ _=>rfl,gP rfl,fun _=>rfl⟩
  · cases h1;exact ⟨.int .u16 0,by kernel_rfl,fun _ _=>rfl,gP rfl,fun _=>rfl⟩
  · cases h1;exact ⟨.nilFunc,by kernel_rfl,fun _ _=>rfl,gP rfl,fun _=>rfl⟩
  · cases h1;exact ⟨.agg #[.bool false,.slice none 0 0],by kernel_rfl,fun _ _=>rfl,gP rfl,fun _=>rfl⟩
  · cases h1;exact ⟨.agg #[.bool false,.slice none 0 0,.slice none 0 0],by kernel_rfl,fun _ _=>rfl,gP rfl,fun _=>rfl⟩
  · cases h1;exact ⟨.agg #[.bool false,.slice none 0 0,.int .i64 0],by kernel_rfl,fun _ _=>rfl,gP rfl,fun _=>rfl⟩
  · cases h1;exact ⟨.agg #[.bool false,.slice none 0 0,.bool false,.int .i64 0],by kernel_rfl,fun _ _=>rfl,gP rfl,fun _=>rfl⟩
  · cases h1;exact ⟨.agg #[.nilFunc],by kernel_rfl,fun _ _=>rfl,gP rfl,fun _=>rfl⟩
  · cases h1;exact ⟨.agg #[.nilFunc,.nilFunc,.nilFunc,.nilFunc,.nilFunc],by kernel_rfl,fun _ _=>rfl,gP rfl,fun _=>rfl⟩
  · cases h1;exact ⟨.agg #[.bool false,.slice none 0 0,.int .i64 0,.bool false,.slice none 0 0,.int .i64 0,.bool false,.slice none 0 0,.int .i64 0,.bool false,.slice none 0 0,.int .i64 0,.bool false,.slice none 0 0,.int .i64 0],by kernel_rfl,fun _ _=>rfl,gP rfl,fun _=>rfl⟩
  · cases h1;exact ⟨.agg #[.int .i64 0,.int .i64 0],by kernel_rfl,fun _ _=>rfl,gP rfl,fun _=>rfl⟩
  · cases h1;exact ⟨.agg #[.int .u16 0,.int .u16 0],by kernel_rfl,fun _ _=>rfl,gP rfl,fun _=>rfl⟩
  · cases h1
 size t m r h:=by
  have h1:tyN t=some (m,r):=h
  unfold tyN at h1
  split at h1
  · cases h1;exact ⟨by kernel_rfl,_,Tryz.underlying4,rfl⟩
  · cases h1;exact ⟨by kernel_rfl,_,Tryz.underlying3,rfl⟩
  · cases h1;exact ⟨by kernel_rfl,_,Tryz.underlying22,rfl⟩
  · cases h1;exact ⟨by kernel_rfl,_,Tryz.underlying47,rfl⟩
  · cases h1;exact ⟨by kernel_rfl,_,Tryz.underlying61,rfl⟩
  · cases h1;exact ⟨by kernel_rfl,_,Tryz.underlying90,rfl⟩
  · cases h1;exact ⟨by kernel_rfl,_,Tryz.underlying24,rfl⟩
  · cases h1;exact ⟨by kernel_rfl,_,Tryz.underlying41,rfl⟩
  · cases h1;exact ⟨by kernel_rfl,_,Tryz.underlying26,rfl⟩
  · cases h1;exact ⟨by kernel_rfl,_,Tryz.underlying116,rfl⟩
  · cases h1;exact ⟨by kernel_rfl,_,Tryz.underlying92,rfl⟩
  · cases h1;exact ⟨by kernel_rfl,_,Tryz.underlying93,rfl⟩
  · cases h1;exact ⟨by kernel_rfl,_,Tryz.underlying62,rfl⟩
  · cases h1;exact ⟨by kernel_rfl,_,Tryz.underlying44,rfl⟩
  · cases h1;exact ⟨by kernel_rfl,_,Tryz.underlying70,rfl⟩
  · cases h1
 off s k o h:=by
  have h1:tyO s k=some o:=h
  unfold tyO at h1
  split at h1
  · cases h1;exact iI (m:=0) Tryz.underlying24 rfl (by kernel_rfl) rfl
  · cases h1;exact iI (m:=0) Tryz.underlying24 rfl (by kernel_rfl) rfl
  · cases h1;exact iI (m:=1) Tryz.underlying41 rfl (by kernel_rfl) rfl
  · cases h1;exact iI (m:=0) Tryz.underlying41 rfl (by kernel_rfl) rfl
  · cases h1;exact iI (m:=1) Tryz.underlying26 rfl (by kernel_rfl) rfl
  · cases h1;exact iI (m:=0) Tryz.underlying26 rfl (by kernel_rfl) rfl
  · cases h1;exact iI (m:=1) Tryz.underlying116 rfl (by kernel_rfl) rfl
  · cases h1;exact iI (m:=0) Tryz.underlying116 rfl (by kernel_rfl) rfl
  · cases h1;exact iI (m:=0) Tryz.underlying116 rfl (by kernel_rfl) rfl
  · cases h1;exact iI (m:=0) Tryz.underlying92 rfl (by kernel_rfl) rfl
  · cases h1
end Go.Proofs.YtdpmbgomcjnohaaGreatDoor.Rf
/- Calls that tell of blocks that are not ours; the larger of two; a dyadic number from its parts. -/
namespace Go.Proofs.YtdpmbgomcjnohaaGreatDoor.Rf
open Go Go.RowKit Go.Proofs.YtdpmbgomcjnohaaGreatDoor.Pl
set_option linter.all false
set_option maxRecDepth 100000
set_option maxHeartbeats 8000000
section
variable {P:Program} {Q:Exit→Act→World→Prop} {n:Nat} {ds:List Deferred} {w0:World} {cs:List Code} {l:Fr} {B:Bx} {Γ:Gm} {L:List Oper}
theorem xI {r:zW} {i m d:Nat} {o:Oper} {f:FuncId} {xs:List Operand} {ats:Array TypeId} {ss:List SV} (g:Nat) (S:Spec) (res:SV)
  (ho:nth L i=some o) (hop:o.op = .call { callee:=.value (.func f),args:=xs.toArray,argTypes:=ats }) (hd:o.dst=some d) (hg:mW L l o.guard=some true) (hx:evs l xs=some ss) (hfr:fresh g l B Γ=true) (hf:∀ (u:Array Value) X,(callFunc f u).run P X = .ok (.enter f u) X)
  (Bl:∀ α γ w,Holds w0 B Γ α γ w→Calls P f (bU α γ ss).toArray w (fun e w'=>∃ F,(∀ k,bE (F k)=true)∧e = .returned (den α (upd γ g F) res)∧S.P (own B α) w' F∧Ex w w'))
  (h:HA P Q n ds w0 cs L r ((d,res)::l) B ((g,S)::Γ)):HA P Q n ds w0 cs L ((false,i,m)::r) l B Γ:=fun α γ w hH=>by
 obtain ⟨h1,h2,h3⟩:=kg hfr
 refine ay ho hop hd (gH hg α γ) (wO hx) hf (Calls.mono (Bl α γ w hH) ?_)
 rintro e w' ⟨F,hF,rfl,hR,hE⟩
 have hA:=h α (upd γ g F) w' ((hH.ext hE).add g S F h2 hF hR h3)
 rw [pX,kQ l h1] at hA
 exact ⟨_,rfl,trivial,hA⟩
def noT (T:TypeId):Bx→Bool
 | []=>true
 | (_,t,_)::r=>!(Nat.beq t T)&&noT T r
theorem R9 {T:TypeId}:∀ {B:Bx} {b:Nat} {t:TypeId} {cs:List SV},noT T B=true→jO B b=some (t,cs)→t≠T
 | [],_,_,_,_,h=>by cases h
 | (b',t',c')::r,b,t,cs,h,hb=>by
  have h1:(!(Nat.beq t' T)&&noT T r)=true:=h
  rw [Bool.and_eq_true] at h1
  unfold jO at hb
  cases e:Nat.beq b' b with
  | true =>
   rw [e] at hb
   cases hb
   have h2:=h1.1
   rw [Bool.not_eq_true'] at h2
   exact Nat.ne_of_beq_eq_false h2
  | false=>rw [e] at hb;exact R9 h1.2 hb
theorem oW {α:Env} {γ:j6} {w:World} {N:Nat} {T:TypeId} {cs:List Value} (h:Holds w0 B Γ α γ w) (hT:noT T B=true) (k:Cb w N T cs):¬ own B α N:=by
 rintro ⟨b,⟨⟨T',cs'⟩,hb⟩,rfl⟩
 have h1:=(h.box b T' cs' hb).1
 unfold Cb at h1 k
 rw [h1] at k
 cases k
 exact R9 hT hb rfl
theorem mh {ord:Option (List Nat)} {l0:Fr} {B0:Bx} {Γ0:Gm} {tr:Tr} {d:Nat} {o:Oper} {f:FuncId} {xs:List Operand} {ats:Array TypeId} {ss:List SV} {rd:List Nat} {lr:Fr} {Γr:Gm} (gs:List Nat) (g:Nat) (S:RS) (res:SV)
  (ho:nth L (oi ord tr.length)=some o) (hop:o.op = .call { callee:=.value (.func f),args:=xs.toArray,argTypes:=ats }) (hd:o.dst=some d) (hrd:EQ L o.guard++Ye xs=rd) (hlr:kr (wh l0 tr) rd=lr) (hg:mW L lr o.guard=some true)
  (hx:evs lr xs=some ss) (hΓ:qK (Gq Γ0 tr) gs=Γr) (hf:∀ (u:Array Value) X,(callFunc f u).run P X = .ok (.enter f u) X)
  (Bl:∀ α γ w,Holds w0 [] Γr α γ w→Calls P f (bU α γ ss).toArray w (fun e w'=>∃ F,(∀ k,bE (F k)=true)∧e = .returned (den α (upd γ g F) res)∧S.R w' F∧Ex w w'))
  (h:DA P Q n ds w0 cs L ord l0 B0 Γ0 (⟨some d,res,rd,[],gs,none,none,some (g,S.S)⟩::tr)):DA P Q n ds w0 cs L ord l0 B0 Γ0 tr:=fun ha=>h (by
 subst hΓ hlr
 exact ⟨.call o d g S res rd gs f xs ats ss ho hop hd hg hx hf Bl,ha⟩)
theorem aao {ord:Option (List Nat)} {l0:Fr} {B0:Bx} {Γ0:Gm} {tr:Tr} {d:Nat} {o:Oper} {x y:Operand} {t:Array TypeId} {rd:List Nat} {lr:Fr} {k:IntKind} {a b:Int} (ho:nth L (oi ord tr.length)=some o) (hop:o.op = .call { callee:=.builtin .max,args:=#[x,y],argTypes:=t }) (hd:o.dst=some d) (hrd:EQ L o.guard++(AA x++AA y)=rd) (hlr:kr (wh l0 tr) rd=lr) (hg:mW L lr o.guard=some true)
  (hx:ev lr x=some (.v (.int k a))) (hy:ev lr y=some (.v (.int k b))) (h:DA P Q n ds w0 cs L ord l0 B0 Γ0 (⟨some d,.v (.int k (max a b)),rd,[],[],none,none,none⟩::tr)):DA P Q n ds w0 cs L ord l0 B0 Γ0 tr :=
 M0 (.v (.int k (max a b))) (AA x++AA y) [] ho hd hrd hlr hg rfl (fun α γ w _ ρ hρ=>by
  unfold execOp;rw [hop]
  refine dK (Builtin.max_ _ _ (#[x,y].map ρ)) w ?_
  have e1:ρ x = .int k a:=hρ.dA (bS (α:=α) (γ:=γ) hx)
  have e2:ρ y = .int k b:=hρ.dA (bS (α:=α) (γ:=γ) hy)
  rw [show #[x,y].map ρ=#[.int k a,.int k b] from by simp [e1,e2]]
  have e:max a b=if b>a then b else a:=by split<;>omega
  rw [show den α γ (.v (.int k (max a b))) = .int k (max a b) from rfl]
  rw [e]
  exact run_max_int2 _ _ _ _ _ _ _) h
end
theorem aap {w:World} {f:Nat→Value} {m e lo hi:Int} {x:Rat} {L:Nat} (h:(rA m).R w f) (d:Dd m e x L lo hi):Dn w (.agg #[f 0,f 1,.int .i64 e]) x L lo hi:=by
 obtain ⟨A,c,e1,u⟩:=h
 have e2:=Array.mk.inj (Value.agg.inj e1)
 simp only [List.cons.injEq,and_true] at e2
 exact ⟨m,e,A,c,by rw [e2.1,e2.2],u,d⟩
end Go.Proofs.YtdpmbgomcjnohaaGreatDoor.Rf
