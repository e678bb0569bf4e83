/- Values, variables and facts as the walk knows them: a tree of values over the variables of the call (boxes) and over what was found (ghosts). -/
import Derived.Test.YtgcieamfidoaoaaGreatDoorEac
import Derived.Test.YtgcieamfidoaoaaGreatDoorEab
set_option linter.all false
set_option maxHeartbeats 8000000
namespace Go.Proofs.YtgcieamfidoaoaaGreatDoor.Rf
open Go Go.RowKit Go.Proofs.YtgcieamfidoaoaaGreatDoor.Pl
set_option maxRecDepth 100000
inductive SV where
 | v (x:Value)
 | p (b o:Nat)
 | c (g k:Nat)
 | a (l:List SV)
 | t (l:List SV)
 | f (fn:FuncId) (fs cap:List SV)
abbrev Env:=Nat→Nat
abbrev kR:=Nat→Nat→Value
mutual
def den (α:Env) (γ:kR):SV→Value
 | .v x=>x
 | .p b o=>.pointer (some ⟨α b,o,none⟩)
 | .c g k=>γ g k
 | .a l=>.agg (bZ α γ l).toArray
 | .t l=>.tuple (bZ α γ l).toArray
 | .f fn fs cap=>.func (.func fn) (bZ α γ fs).toArray (bZ α γ cap).toArray
def bZ (α:Env) (γ:kR):List SV→List Value
 | []=>[]
 | x::l=>den α γ x::bZ α γ l
end
mutual
def Xr (k:Nat):SV→Bool
 | .v _=>true
 | .p b _=>!(Nat.beq b k)
 | .c _ _=>true
 | .a l=>qK k l
 | .t l=>qK k l
 | .f _ fs cap=>qK k fs&&qK k cap
def qK (k:Nat):List SV→Bool
 | []=>true
 | x::l=>Xr k x&&qK k l
end
mutual
def Xu (k:Nat):SV→Bool
 | .v _=>true
 | .p _ _=>true
 | .c g _=>!(Nat.beq g k)
 | .a l=>wP k l
 | .t l=>wP k l
 | .f _ fs cap=>wP k fs&&wP k cap
def wP (k:Nat):List SV→Bool
 | []=>true
 | x::l=>Xu k x&&wP k l
end
def upd {A:Type} (α:Nat→A) (k:Nat) (N:A):Nat→A:=fun i=>if i=k then N else α i
theorem upd_same {A:Type} (α:Nat→A) (k:Nat) (N:A):upd α k N k=N:=by unfold upd;rw [if_pos rfl]
theorem upd_ne {A:Type} (α:Nat→A) {k i:Nat} (N:A) (h:i≠k):upd α k N i=α i:=by unfold upd;rw [if_neg h]
theorem Zv {b k:Nat} (h:(!(Nat.beq b k))=true):b≠k:=by
 rintro rfl
 rw [Nat.beq_refl] at h;cases h
mutual
theorem Jj {α:Env} {γ:kR} {k N:Nat}:∀ (s:SV),Xr k s=true→den (upd α k N) γ s=den α γ s
 | .v x,_=>rfl
 | .p b o,h=>by
  have h1:(!(Nat.beq b k))=true:=h
  show Value.pointer (some ⟨upd α k N b,o,none⟩)=_
  rw [upd_ne _ _ (Zv h1)];rfl
 | .c g j,_=>rfl
 | .a l,h=>by show Value.agg _=Value.agg _;rw [mY l h]
 | .t l,h=>by show Value.tuple _=Value.tuple _;rw [mY l h]
 | .f fn fs cap,h=>by
  have h1:(qK k fs&&qK k cap)=true:=h
  rw [Bool.and_eq_true] at h1
  show Value.func _ _ _=Value.func _ _ _;rw [mY fs h1.1,mY cap h1.2]
theorem mY {α:Env} {γ:kR} {k N:Nat}:∀ (l:List SV),qK k l=true→bZ (upd α k N) γ l=bZ α γ l
 | [],_=>rfl
 | x::l,h=>by
  have h1:(Xr k x&&qK k l)=true:=h
  rw [Bool.and_eq_true] at h1
  show _::_=_::_
  rw [Jj x h1.1,mY l h1.2]
end
mutual
theorem Jk {α:Env} {γ:kR} {k:Nat} {F:Nat→Value}:∀ (s:SV),Xu k s=true→den α (upd γ k F) s=den α γ s
 | .v x,_=>rfl
 | .p b o,h=>rfl
 | .c g j,h=>by
  have h1:(!(Nat.beq g k))=true:=h
  show upd γ k F g j=_
  rw [upd_ne _ _ (Zv h1)];rfl
 | .a l,h=>by show Value.agg _=Value.agg _;rw [oG l h]
 | .t l,h=>by show Value.tuple _=Value.tuple _;rw [oG l h]
 | .f fn fs cap,h=>by
  have h1:(wP k fs&&wP k cap)=true:=h
  rw [Bool.and_eq_true] at h1
  show Value.func _ _ _=Value.func _ _ _;rw [oG fs h1.1,oG cap h1.2]
theorem oG {α:Env} {γ:kR} {k:Nat} {F:Nat→Value}:∀ (l:List SV),wP k l=true→bZ α (upd γ k F) l=bZ α γ l
 | [],_=>rfl
 | x::l,h=>by
  have h1:(Xu k x&&wP k l)=true:=h
  rw [Bool.and_eq_true] at h1
  show _::_=_::_
  rw [Jk x h1.1,oG l h1.2]
end
theorem jh (α:Env) (γ:kR):∀ l,bZ α γ l=l.map (den α γ)
 | []=>rfl
 | x::l=>by show _::_=_::_;rw [jh α γ l]
theorem iD (α:Env) (γ:kR) (l:List SV):(bZ α γ l).length=l.length:=by rw [jh,List.length_map]
theorem Ak (α:Env) (γ:kR) (l m:List SV):bZ α γ (l++m)=bZ α γ l++bZ α γ m:=by rw [jh,jh,jh,List.map_append]
theorem zD (α:Env) (γ:kR) (n:Nat) (l:List SV):bZ α γ (l.take n)=(bZ α γ l).take n:=by rw [jh,jh,List.map_take]
theorem zF (α:Env) (γ:kR) (n:Nat) (l:List SV):bZ α γ (l.drop n)=(bZ α γ l).drop n:=by rw [jh,jh,List.map_drop]
abbrev Fr:=List (Nat × SV)
def gI (α:Env) (γ:kR):Fr→List (Nat × Value)
 | []=>[]
 | (d,s)::l=>(d,den α γ s)::gI α γ l
def lk:Fr→Nat→Option SV
 | [],_=>none
 | (d,s)::l,t=>match Nat.beq d t with
  | true=>some s
  | false=>lk l t
theorem fJ {α:Env} {γ:kR}:∀ (l:Fr) (t:Nat),Go.Proofs.YtgcieamfidoaoaaGreatDoor.Pl.look (gI α γ l) t=(lk l t).map (den α γ)
 | [],_=>rfl
 | (d,s)::l,t=>by
  unfold gI Go.Proofs.YtgcieamfidoaoaaGreatDoor.Pl.look lk
  cases Nat.beq d t with
  | true=>rfl
  | false=>exact fJ l t
def ev (l:Fr):Operand→Option SV
 | .tmp t=>lk l t
 | .const v=>some (.v v)
 | .global g=>some (.v (.pointer (some ⟨g,0,none⟩)))
 | .func f=>some (.v (.func (.func f) #[] #[]))
theorem bT {α:Env} {γ:kR} {l:Fr} {x:Operand} {s:SV} (h:ev l x=some s):dK (gI α γ l) x=some (den α γ s):=by
 cases x with
 | tmp t=>show Go.Proofs.YtgcieamfidoaoaaGreatDoor.Pl.look (gI α γ l) t=_;rw [fJ,show lk l t=some s from h];rfl
 | const v=>obtain rfl:=Option.some.inj h;rfl
 | global g=>obtain rfl:=Option.some.inj h;rfl
 | func f=>obtain rfl:=Option.some.inj h;rfl
def evs (l:Fr):List Operand→Option (List SV)
 | []=>some []
 | x::xs=>match ev l x with
  | none=>none
  | some v=>match evs l xs with
   | none=>none
   | some vs=>some (v::vs)
theorem xz {α:Env} {γ:kR} {l:Fr}:∀ {xs:List Operand} {ss:List SV},evs l xs=some ss→sw (gI α γ l) xs=some (bZ α γ ss)
 | [],ss,h=>by obtain rfl:=Option.some.inj h;rfl
 | x::xs,ss,h=>by
  unfold evs at h
  cases hx:ev l x with
  | none=>rw [hx] at h;cases h
  | some s =>
   rw [hx] at h
   cases hxs:evs l xs with
   | none=>rw [hxs] at h;cases h
   | some us =>
    rw [hxs] at h
    obtain rfl:=Option.some.inj h
    unfold sw
    rw [bT hx,xz hxs];rfl
abbrev Bx:=List (Nat × TypeId × List SV)
def jU:Bx→Nat→Option (TypeId × List SV)
 | [],_=>none
 | (b,x)::l,k=>match Nat.beq b k with
  | true=>some x
  | false=>jU l k
def Da (k:Nat):Fr→Bool
 | []=>true
 | (_,s)::l=>Xr k s&&Da k l
def AZ (k:Nat):Bx→Bool
 | []=>true
 | (b,_,cs)::l=>!(Nat.beq b k)&&qK k cs&&AZ k l
def D8 (k:Nat):Fr→Bool
 | []=>true
 | (_,s)::l=>Xu k s&&D8 k l
def Db (k:Nat):Bx→Bool
 | []=>true
 | (_,_,cs)::l=>wP k cs&&Db k l
theorem uS {α:Env} {γ:kR} {k N:Nat}:∀ (l:Fr),Da k l=true→gI (upd α k N) γ l=gI α γ l
 | [],_=>rfl
 | (d,s)::l,h=>by
  have h1:(Xr k s&&Da k l)=true:=h
  rw [Bool.and_eq_true] at h1
  show (_,_)::_=(_,_)::_
  rw [Jj s h1.1,uS l h1.2]
theorem mO {α:Env} {γ:kR} {k:Nat} {F:Nat→Value}:∀ (l:Fr),D8 k l=true→gI α (upd γ k F) l=gI α γ l
 | [],_=>rfl
 | (d,s)::l,h=>by
  have h1:(Xu k s&&D8 k l)=true:=h
  rw [Bool.and_eq_true] at h1
  show (_,_)::_=(_,_)::_
  rw [Jk s h1.1,mO l h1.2]
theorem Gj {k:Nat}:∀ {B:Bx} {b:Nat} {T:TypeId} {cs:List SV},AZ k B=true→jU B b=some (T,cs)→b≠k∧qK k cs=true
 | [],_,_,_,_,h=>by cases h
 | (b',x,cs')::B,b,T,cs,h,e=>by
  have h1:(!(Nat.beq b' k)&&qK k cs'&&AZ k B)=true:=h
  rw [Bool.and_eq_true,Bool.and_eq_true] at h1
  unfold jU at e
  cases hb:Nat.beq b' b with
  | true =>
   rw [hb] at e
   obtain rfl:=Nat.eq_of_beq_eq_true hb
   cases e
   exact ⟨Zv h1.1.1,h1.1.2⟩
  | false =>
   rw [hb] at e
   exact Gj h1.2 e
theorem MP {k:Nat}:∀ {B:Bx} {b:Nat} {T:TypeId} {cs:List SV},Db k B=true→jU B b=some (T,cs)→wP k cs=true
 | [],_,_,_,_,h=>by cases h
 | (b',x,cs')::B,b,T,cs,h,e=>by
  have h1:(wP k cs'&&Db k B)=true:=h
  rw [Bool.and_eq_true] at h1
  unfold jU at e
  cases hb:Nat.beq b' b with
  | true=>rw [hb] at e;cases e;exact h1.1
  | false=>rw [hb] at e;exact MP h1.2 e
def bG:Value→Bool
 | .agg _=>false
 | .tuple _=>false
 | .int .u32 _=>false
 | _=>true
def Ei (w:World) (k:Nat):Prop:=∀ cs T m,w.heap[k]?=some (.cells cs T m)→∀ c∈cs.toList,∀ z,c≠.int .u32 z
structure Spec where
 P:(Nat→Prop)→World→(Nat→Value)→Prop
 keep:∀ {X:Nat→Prop} {w w':World} {f:Nat→Value},P X w f→w.heap.size≤w'.heap.size→(∀ k,k<w.heap.size→¬ X k→w'.heap[k]?=w.heap[k]?)→(∀ k,X k→Ei w k)→(∀ k,X k→Ei w' k)→P X w' f
 grow:∀ {X Y:Nat→Prop} {w:World} {f:Nat→Value},P X w f→(∀ k,Y k→X k∨w.heap.size≤k)→(∀ k,Y k→Ei w k)→P Y w f
abbrev Gm:=List (Nat × Spec)
def lW:Gm→Nat→Option Spec
 | [],_=>none
 | (g,S)::l,k=>match Nat.beq g k with
  | true=>some S
  | false=>lW l k
def hasB (B:Bx) (b:Nat):Prop:=∃ x,jU B b=some x
def own (B:Bx) (α:Env) (k:Nat):Prop:=∃ b,hasB B b∧α b=k
structure Holds (w0:World) (B:Bx) (Γ:Gm) (α:Env) (γ:kR) (w:World):Prop where
 ex:Ex w0 w
 box:∀ b T cs,jU B b=some (T,cs)→Cb w (α b) T (bZ α γ cs)∧w0.heap.size≤α b∧∀ c∈bZ α γ cs,bG c=true
 inj:∀ b b',hasB B b→hasB B b'→α b=α b'→b=b'
 sc:∀ g k,bG (γ g k)=true
 fact:∀ g S,lW Γ g=some S→S.P (own B α) w (γ g)
theorem VJ {v:Value} (h:bG v=true) (z:Int):v≠.int .u32 z:=by rintro rfl;cases h
theorem lS {v:Value} (h:bG v=true):v.oneCell'=true∧v.cells=#[v]:=by
 cases v<;>first | (cases h;done) | exact ⟨rfl,rfl⟩
theorem Dc {w:World} {N:Nat} {T:TypeId} {cs:List Value} (h:Cb w N T cs) (hp:∀ c∈cs,bG c=true):Ei w N:=by
 intro cs' T' m e c hc z
 rw [show w.heap[N]?=_ from h] at e
 cases e
 exact VJ (hp c hc) z
theorem Holds.mE {w0:World} {B:Bx} {Γ:Gm} {α:Env} {γ:kR} {w:World} (h:Holds w0 B Γ α γ w) {k:Nat} (hk:own B α k):k<w.heap.size∧w0.heap.size≤k∧Ei w k:=by
 obtain ⟨b,⟨⟨T,cs⟩,hb⟩,rfl⟩:=hk
 obtain ⟨h1,h2,h3⟩:=h.box b T cs hb
 exact ⟨h1.lt,h2,Dc h1 h3⟩
theorem Holds.ext {w0:World} {B:Bx} {Γ:Gm} {α:Env} {γ:kR} {w w':World} (h:Holds w0 B Γ α γ w) (hE:Ex w w'):Holds w0 B Γ α γ w' where
 ex:=h.ex.trans hE
 box b T cs hb:=by
  obtain ⟨h1,h2,h3⟩:=h.box b T cs hb
  exact ⟨h1.ex hE,h2,h3⟩
 inj:=h.inj
 sc:=h.sc
 fact g S hg:=by
  refine S.keep (h.fact g S hg) hE.size (fun k hk _=>hE.block k hk) (fun k hk=>(h.mE hk).2.2) fun k hk=>?_
  obtain ⟨b,⟨⟨T,cs⟩,hb⟩,rfl⟩:=hk
  obtain ⟨h1,h2,h3⟩:=h.box b T cs hb
  exact Dc (h1.ex hE) h3
theorem Holds.add {w0:World} {B:Bx} {Γ:Gm} {α:Env} {γ:kR} {w:World} (h:Holds w0 B Γ α γ w) (g:Nat) (S:Spec) (F:Nat→Value) (hB:Db g B=true) (hs:∀ k,bG (F k)=true) (hP:S.P (own B α) w F) (hΓ:lW Γ g=none) :
  Holds w0 B ((g,S)::Γ) α (upd γ g F) w where
 ex:=h.ex
 box b T cs hb:=by
  rw [oG cs (MP hB hb)]
  exact h.box b T cs hb
 inj:=h.inj
 sc i k:=by
  unfold upd
  split
  · exact hs k
  · exact h.sc i k
 fact i S' hi:=by
  unfold lW at hi
  cases hb:Nat.beq g i with
  | true =>
   rw [hb] at hi
   obtain rfl:=Nat.eq_of_beq_eq_true hb
   cases hi
   rw [upd_same];exact hP
  | false =>
   rw [hb] at hi
   rw [upd_ne _ _ (fun e=>Nat.ne_of_beq_eq_false hb e.symm)]
   exact h.fact i S' hi
theorem Holds.new {w0:World} {B:Bx} {Γ:Gm} {α:Env} {γ:kR} {w w':World} (h:Holds w0 B Γ α γ w) (k N:Nat) (T:TypeId) (cs:List SV) (hB:AZ k B=true) (hc:qK k cs=true) (hE:Ex w w') (hN:N=w.heap.size) (hC:Cb w' N T (bZ α γ cs)) (hp:∀ c∈bZ α γ cs,bG c=true) :
  Holds w0 ((k,T,cs)::B) Γ (upd α k N) γ w':=by
 have hne:∀ b,hasB B b→b≠k∧α b≠N:=fun b ⟨⟨T',cs'⟩,hb⟩=>⟨(Gj hB hb).1,fun e=>by have:=(h.box b T' cs' hb).1.lt;omega⟩
 have hhas:∀ b,hasB ((k,T,cs)::B) b→b=k∨b≠k∧hasB B b:=fun b ⟨x,hx⟩=>by
  unfold jU at hx
  cases hb:Nat.beq k b with
  | true=>exact .inl (Nat.eq_of_beq_eq_true hb).symm
  | false=>rw [hb] at hx;exact .inr ⟨fun e=>Nat.ne_of_beq_eq_false hb e.symm,x,hx⟩
 have Sv:∀ b T1 c1,jU ((k,T,cs)::B) b=some (T1,c1)→Cb w' (upd α k N b) T1 (bZ (upd α k N) γ c1)∧w0.heap.size≤upd α k N b∧∀ c∈bZ (upd α k N) γ c1,bG c=true:=by
  intro b T1 c1 hb
  unfold jU at hb
  cases hbb:Nat.beq k b with
  | true =>
   rw [hbb] at hb
   obtain rfl:=Nat.eq_of_beq_eq_true hbb
   cases hb
   rw [upd_same,mY _ hc]
   exact ⟨hC,by have:=h.ex.size;omega,hp⟩
  | false =>
   rw [hbb] at hb
   obtain ⟨h1,h2⟩:=Gj hB hb
   obtain ⟨h3,h4,h5⟩:=h.box b T1 c1 hb
   rw [upd_ne _ _ h1,mY _ h2]
   exact ⟨h3.ex hE,h4,h5⟩
 refine ⟨h.ex.trans hE,Sv,?_,h.sc,fun g S hg=>?_⟩
 · intro b b' h1 h2 e
   rcases hhas b h1 with e1 | ⟨n1,h1⟩<;>rcases hhas b' h2 with e2 | ⟨n2,h2⟩
   · rw [e1,e2]
   · rw [e1,upd_same,upd_ne _ _ n2] at e;exact absurd e.symm (hne _ h2).2
   · rw [e2,upd_same,upd_ne _ _ n1] at e;exact absurd e (hne _ h1).2
   · rw [upd_ne _ _ n1,upd_ne _ _ n2] at e;exact h.inj b b' h1 h2 e
 · have hno:∀ q,own ((k,T,cs)::B) (upd α k N) q→Ei w' q:=by
    rintro q ⟨b,⟨⟨T1,c1⟩,hb⟩,rfl⟩
    obtain ⟨h1,h2,h3⟩:=Sv b T1 c1 hb
    exact Dc h1 h3
   have hf:=S.keep (h.fact g S hg) hE.size (fun q hq _=>hE.block q hq) (fun q hq=>(h.mE hq).2.2) (fun q hq=>by
    obtain ⟨b,⟨⟨T1,c1⟩,hb⟩,rfl⟩:=hq
    obtain ⟨h1,h2,h3⟩:=h.box b T1 c1 hb
    exact Dc (h1.ex hE) h3)
   -- the new block is younger than all that the fact speaks of: told at the old world first
   have hg0:=S.grow (Y:=own ((k,T,cs)::B) (upd α k N)) (h.fact g S hg) (fun q ⟨b,hb,e⟩=>by
    rcases hhas b hb with rfl | ⟨n1,h1⟩
    · rw [upd_same] at e;right;omega
    · rw [upd_ne _ _ n1] at e;left;exact ⟨b,h1,e⟩) (fun q ⟨b,hb,e⟩=>by
    rcases hhas b hb with rfl | ⟨n1,h1⟩
    · rw [upd_same] at e
      intro cs' T' m hm
      rw [Array.getElem?_eq_none (by omega)] at hm;cases hm
    · rw [upd_ne _ _ n1] at e;exact (h.mE ⟨b,h1,e⟩).2.2)
   exact S.keep hg0 hE.size (fun q hq _=>hE.block q hq) (fun q ⟨b,hb,e⟩=>by
    rcases hhas b hb with rfl | ⟨n1,h1⟩
    · rw [upd_same] at e
      intro cs' T' m hm
      rw [Array.getElem?_eq_none (by omega)] at hm;cases hm
    · rw [upd_ne _ _ n1] at e;exact (h.mE ⟨b,h1,e⟩).2.2) hno
theorem Holds.put {w0:World} {B:Bx} {Γ:Gm} {α:Env} {γ:kR} {w w':World} (h:Holds w0 B Γ α γ w) (b:Nat) (T:TypeId) (old cs:List SV) (hb:jU B b=some (T,old)) (hX:Xs [α b] w w') (hC:Cb w' (α b) T (bZ α γ cs)) (hp:∀ c∈bZ α γ cs,bG c=true) :
  Holds w0 ((b,T,cs)::B) Γ α γ w':=by
 have hlk:∀ q,hasB ((b,T,cs)::B) q↔hasB B q:=fun q=>by
  constructor
  · rintro ⟨x,hx⟩
    unfold jU at hx
    cases hq:Nat.beq b q with
    | true=>obtain rfl:=Nat.eq_of_beq_eq_true hq;exact ⟨_,hb⟩
    | false=>rw [hq] at hx;exact ⟨x,hx⟩
  · rintro ⟨x,hx⟩
    cases hq:Nat.beq b q with
    | true=>exact ⟨(T,cs),by unfold jU;rw [hq]⟩
    | false=>exact ⟨x,by unfold jU;rw [hq];exact hx⟩
 have hown:∀ q,own ((b,T,cs)::B) α q↔own B α q:=fun q=>⟨fun ⟨c,h1,h2⟩=>⟨c,(hlk c).1 h1,h2⟩,fun ⟨c,h1,h2⟩=>⟨c,(hlk c).2 h1,h2⟩⟩
 have Sv:∀ q T1 c1,jU ((b,T,cs)::B) q=some (T1,c1)→Cb w' (α q) T1 (bZ α γ c1)∧w0.heap.size≤α q∧∀ c∈bZ α γ c1,bG c=true:=by
  intro q T1 c1 hq
  unfold jU at hq
  cases hbb:Nat.beq b q with
  | true =>
   rw [hbb] at hq
   obtain rfl:=Nat.eq_of_beq_eq_true hbb
   cases hq
   exact ⟨hC,(h.box _ _ _ hb).2.1,hp⟩
  | false =>
   rw [hbb] at hq
   obtain ⟨h3,h4,h5⟩:=h.box q T1 c1 hq
   refine ⟨h3.xs hX (fun hm=>?_),h4,h5⟩
   have e:α q=α b:=by simpa using hm
   exact Nat.ne_of_beq_eq_false hbb (h.inj q b ⟨_,hq⟩ ⟨_,hb⟩ e).symm
 have hno:∀ q,own ((b,T,cs)::B) α q→Ei w' q:=by
  rintro q ⟨c,⟨⟨T1,c1⟩,hc⟩,rfl⟩
  obtain ⟨h1,h2,h3⟩:=Sv c T1 c1 hc
  exact Dc h1 h3
 refine ⟨h.ex.xs hX (h.box _ _ _ hb).2.1,Sv,fun q q' h1 h2=>h.inj q q' ((hlk q).1 h1) ((hlk q').1 h2),h.sc,fun g S hg=>?_⟩
 have h0:=S.grow (Y:=own ((b,T,cs)::B) α) (h.fact g S hg) (fun q hq=>.inl ((hown q).1 hq)) (fun q hq=>(h.mE ((hown q).1 hq)).2.2)
 exact S.keep h0 hX.size (fun q hq hn=>hX.block q hq (fun hm=>hn ⟨b,(hlk b).2 ⟨_,hb⟩,List.mem_singleton.1 hm |>.symm⟩)) (fun q hq=>(h.mE ((hown q).1 hq)).2.2) hno
end Go.Proofs.YtgcieamfidoaoaaGreatDoor.Rf
/- Regions that draw nothing, walked by reckoning: what an operation does to values and boxes. -/
namespace Go.Proofs.YtgcieamfidoaoaaGreatDoor.Rf
open Go Go.RowKit Go.Proofs.YtgcieamfidoaoaaGreatDoor.Pl
set_option maxRecDepth 100000
structure TI where
 zero:TypeId→Option (List SV)
 size:TypeId→Option (Nat × Bool)
 off:TypeId→Nat→Option Nat
structure E8 (P:Program) (T:TI):Prop where
 zero:∀ t cs,T.zero t=some cs→∃ z,(P.info? t).map (fun i=>i.zero)=some (some z)∧(∀ α γ,bZ α γ cs=z.cells.toList)∧(∀ α γ,∀ c∈bZ α γ cs,bG c=true)∧(∀ k,qK k cs=true)
 size:∀ t n r,T.size t=some (n,r)→(P.info? t).map (·.size)=some n∧∃ d,P.underlying t=some d∧d.isRow=r
 off:∀ s f o,T.off s f=some o→∀ N q X,(Instr.fieldAt s (.pointer (some ⟨N,q,none⟩)) f).run P X = .ok (.pointer (some ⟨N,q+o,none⟩)) X
def qL {A:Type}:List A→Nat→Option A
 | [],_=>none
 | x::_,0=>some x
 | _::l,n+1=>qL l n
theorem p8 {A:Type}:∀ (l:List A) (i:Nat),qL l i=l[i]?
 | [],_=>by simp [qL]
 | _::_,0=>by simp [qL]
 | _::l,n+1=>by simp only [qL,p8 l n,List.getElem?_cons_succ]
def cellsOf:SV→Option (List SV)
 | .a l=>some l
 | .t _=>none
 | x=>some [x]
def Xv:SV→Bool
 | .v x=>bG x
 | .p _ _=>true
 | .c _ _=>true
 | .f _ _ _=>true
 | _=>false
def D9:List SV→Bool
 | []=>true
 | x::l=>Xv x&&D9 l
theorem zG {α:Env} {γ:kR} (hγ:∀ g k,bG (γ g k)=true) {s:SV} (h:Xv s=true):bG (den α γ s)=true:=by
 cases s with
 | v x=>exact h
 | p b o=>rfl
 | c g k=>exact hγ g k
 | a l=>cases h
 | t l=>cases h
 | f fn fs cap=>rfl
theorem lC {α:Env} {γ:kR} (hγ:∀ g k,bG (γ g k)=true):∀ {l:List SV},D9 l=true→∀ c∈bZ α γ l,bG c=true
 | [],_,c,hc=>by cases hc
 | x::l,h,c,hc=>by
  have h1:(Xv x&&D9 l)=true:=h
  rw [Bool.and_eq_true] at h1
  rcases List.mem_cons.1 (show c∈den α γ x::bZ α γ l from hc) with rfl | hc
  · exact zG hγ h1.1
  · exact lC hγ h1.2 c hc
theorem EH {α:Env} {γ:kR} (hγ:∀ g k,bG (γ g k)=true) {s:SV} {cs:List SV} (h:cellsOf s=some cs) (hk:D9 cs=true):(den α γ s).cells=(bZ α γ cs).toArray:=by
 cases s with
 | a l=>obtain rfl:=Option.some.inj h;rfl
 | t l=>cases h
 | v x =>
  obtain rfl:=Option.some.inj h
  have h1:(Xv (.v x)&&true)=true:=hk
  rw [Bool.and_true] at h1
  exact (lS (show bG x=true from h1)).2
 | p b o=>obtain rfl:=Option.some.inj h;rfl
 | c g k=>obtain rfl:=Option.some.inj h;exact (lS (hγ g k)).2
 | f fn fs cap=>obtain rfl:=Option.some.inj h;rfl
def De (cs:List SV) (o:Nat) (vs:List SV):List SV:=cs.take o++(vs++cs.drop (Nat.add o vs.length))
def Ea:Bx→Nat→Bx
 | [],_=>[]
 | (b,x)::l,k=>match Nat.beq b k with
  | true=>Ea l k
  | false=>(b,x)::Ea l k
theorem Gl:∀ (B:Bx) (k b:Nat),b≠k→jU (Ea B k) b=jU B b
 | [],_,_,_=>rfl
 | (q,x)::l,k,b,h=>by
  cases hq:Nat.beq q k with
  | true =>
   have e:=Nat.eq_of_beq_eq_true hq
   cases hb:Nat.beq q b with
   | true=>exact absurd (by rw [← Nat.eq_of_beq_eq_true hb,e]) h
   | false=>simp only [Ea,hq,jU,hb];exact Gl l k b h
  | false =>
   cases hb:Nat.beq q b with
   | true=>simp only [Ea,hq,jU,hb]
   | false=>simp only [Ea,hq,jU,hb];exact Gl l k b h
theorem VK (B:Bx) (b:Nat) (x:TypeId × List SV) (q:Nat):jU ((b,x)::Ea B b) q=jU ((b,x)::B) q:=by
 unfold jU
 cases hb:Nat.beq b q with
 | true=>rfl
 | false=>exact Gl B b q (fun e=>Nat.ne_of_beq_eq_false hb e.symm)
theorem Holds.congr {w0:World} {B B':Bx} {Γ:Gm} {α:Env} {γ:kR} {w:World} (h:Holds w0 B Γ α γ w) (e:∀ b,jU B' b=jU B b):Holds w0 B' Γ α γ w:=by
 have e1:jU B'=jU B:=funext e
 have e2:own B' α=own B α:=by
  funext k
  unfold own hasB
  rw [e1]
 refine ⟨h.ex,fun b T cs hb=>h.box b T cs (by rw [← e];exact hb),fun b b' h1 h2=>h.inj b b' ?_ ?_,h.sc,fun g S hg=>by rw [e2];exact h.fact g S hg⟩
 · obtain ⟨x,hx⟩:=h1;exact ⟨x,by rw [← e];exact hx⟩
 · obtain ⟨x,hx⟩:=h2;exact ⟨x,by rw [← e];exact hx⟩
def O3 (T:TI) (l:Fr) (B:Bx) (k:Nat):Op→Option (Option SV × Bx × Nat)
 | .move x=>match ev l x with
  | some s=>some (some s,B,k)
  | none=>none
 | .assign x=>match ev l x with
  | some s=>some (some s,B,k)
  | none=>none
 | .pick c x y=>match ev l c with
  | some (.v (.bool true))=>match ev l x with
   | some s=>some (some s,B,k)
   | none=>none
  | some (.v (.bool false))=>match ev l y with
   | some s=>some (some s,B,k)
   | none=>none
  | _=>none
 | .extract x i=>match ev l x with
  | some (.t ls)=>match qL ls i with
   | some s=>some (some s,B,k)
   | none=>none
  | _=>none
 | .fieldAddr s x f=>match ev l x with
  | some (.p b o)=>match T.off s f with
   | some d=>some (some (.p b (Nat.add o d)),B,k)
   | none=>none
  | _=>none
 | .alloc t=>match T.zero t with
  | some cs=>match Da k l&&AZ k B with
   | true=>some (some (.p k 0),(k,t,cs)::B,Nat.succ k)
   | false=>none
  | none=>none
 | .box t x=>match ev l x with
  | some s=>match cellsOf s with
   | some cs=>match D9 cs&&(qK k cs&&(Da k l&&AZ k B)) with
    | true=>some (some (.p k 0),(k,t,cs)::B,Nat.succ k)
    | false=>none
   | none=>none
  | none=>none
 | .load t x=>match ev l x with
  | some (.p b o)=>match jU B b with
   | some (_,cs)=>match T.size t with
    | some (n,true)=>match Nat.beq ((cs.drop o).take n).length n with
     | true=>some (some (.a ((cs.drop o).take n)),B,k)
     | false=>none
    | some (_,false)=>match qL cs o with
     | some s=>some (some s,B,k)
     | none=>none
    | none=>none
   | none=>none
  | _=>none
 | .store t x y=>match ev l x with
  | some (.p b o)=>match jU B b with
   | some (u,cs)=>match ev l y with
    | some (.a vs)=>match T.size t with
     | some (n,true)=>match Nat.beq vs.length n&&(Nat.ble (Nat.add o vs.length) cs.length&&D9 vs) with
      | true=>some (none,(b,u,De cs o vs)::Ea B b,k)
      | false=>none
     | _=>none
    | some (.t _)=>none
    | some s=>match T.size t with
     | some (1,false)=>match Nat.ble (Nat.succ o) cs.length&&Xv s with
      | true=>some (none,(b,u,De cs o [s])::Ea B b,k)
      | false=>none
     | _=>none
    | none=>none
   | none=>none
  | _=>none
 | _=>none
def K6:List Value→Nat→List Value→List Value
 | cs,_,[]=>cs
 | cs,o,v::vs=>K6 (cs.set o v) (o+1) vs
theorem Gn:∀ (vs:List Value) (cs:List Value) (o:Nat),o+vs.length≤cs.length→K6 cs o vs=cs.take o++(vs++cs.drop (o+vs.length))
 | [],cs,o,_=>by simp [K6]
 | v::vs,cs,o,h=>by
  have hl:o<cs.length:=by simp at h;omega
  unfold K6
  rw [Gn vs (cs.set o v) (o+1) (by simp at h ⊢;omega)]
  have e1:(cs.set o v).take (o+1)=cs.take o++[v]:=by
   rw [List.take_succ,List.getElem?_set_self hl,List.take_set_of_le (Nat.le_refl _)];rfl
  have e2:(cs.set o v).drop (o+1+vs.length)=cs.drop (o+1+vs.length):=List.drop_set_of_lt (by omega)
  rw [e1,e2,List.length_cons,show o+(vs.length+1)=o+1+vs.length by omega]
  simp
theorem uo {N:Nat} {T:TypeId}:∀ (vs:List Value) (o:Nat) {w:World} {cs:List Value},Cb w N T cs→Cb (w.setCells N o vs) N T (K6 cs o vs)
 | [],_,_,_,h=>h
 | v::vs,o,_,_,h=>uo vs (o+1) (Cb.set h o v)
theorem uu {N:Nat}:∀ (vs:List Value) (o:Nat) (w:World),Xs [N] w (w.setCells N o vs)
 | [],_,w=>Xs.ex (Ex.refl w)
 | v::vs,o,w=>(Xs.set w N o v).trans (uu vs (o+1) _)
theorem EI {P:Program} {w:World} {N:Nat} {T:TypeId} {cs:List Value} (h:Cb w N T cs) (o:Nat) (vs:List Value) (hl:o+vs.length≤cs.length) (ty:TypeId) (hi:(P.info? ty).map (·.size)=some vs.length) (h1:∀ v∈vs,v.oneCell'=true) :
  (Instr.storeAt ty (.pointer (some ⟨N,o,none⟩)) (.agg vs.toArray)).run P w = .ok () (w.setCells N o vs):=by
 have ht:w.there N o vs.toArray.size:=fun j hj=>by
  have hj:j<vs.length:=by simpa using hj
  have hlt:o+j<cs.length:=by omega
  refine ⟨by rw [h.at (List.getElem?_eq_getElem hlt)];rfl,?_⟩
  unfold Cb at h
  simp [World.frozen?,h]
 have:=run_storeAt_mid (P:=P) w N o ty vs.toArray ht (by simpa using hi) (all_oneCell_toArray h1)
 simpa using this
theorem uT (α:Env) (γ:kR) (cs:List SV) (o:Nat) (vs:List SV):bZ α γ (De cs o vs)=(bZ α γ cs).take o++(bZ α γ vs++(bZ α γ cs).drop (o+(bZ α γ vs).length)):=by
 unfold De
 rw [Ak,Ak,zD,zF,iD];rfl
theorem Df {cs vs:List Value} {o:Nat} (h1:∀ c∈cs,bG c=true) (h2:∀ c∈vs,bG c=true):∀ c∈cs.take o++(vs++cs.drop (o+vs.length)),bG c=true:=by
 intro c hc
 rcases List.mem_append.1 hc with h | h
 · exact h1 c (List.mem_of_mem_take h)
 · rcases List.mem_append.1 h with h | h
   · exact h2 c h
   · exact h1 c (List.mem_of_mem_drop h)
def Does (P:Program) (w0:World) (l:Fr) (Γ:Gm) (α:Env) (γ:kR) (w:World) (o:Oper) (out:Option SV) (B':Bx):Prop :=
 ∃ α' w',(∀ ρ,Cons ρ (gI α γ l)→(execOp ρ o).run P w = .ok (match out with | some s=>.value (den α' γ s) | none=>.skip) w')∧Holds w0 B' Γ α' γ w'∧gI α' γ l=gI α γ l
theorem Sw {P:Program} {T:TI} (hT:E8 P T) {w0:World} {l:Fr} {B B':Bx} {Γ:Gm} {k k':Nat} {α:Env} {γ:kR} {w:World} {o:Oper} {out:Option SV} (hH:Holds w0 B Γ α γ w) (h:O3 T l B k o.op=some (out,B',k')):Does P w0 l Γ α γ w o out B':=by
 obtain ⟨dst,op,ty,pos,aft,gu⟩:=o
 dsimp only at h
 have val:∀ (s:SV),(∀ ρ,Cons ρ (gI α γ l)→(execOp ρ ⟨dst,op,ty,pos,aft,gu⟩).run P w = .ok (.value (den α γ s)) w)→Does P w0 l Γ α γ w ⟨dst,op,ty,pos,aft,gu⟩ (some s) B:=fun s hs=>⟨α,w,hs,hH,rfl⟩
 cases op<;>try (cases h;done)
 case move x =>
  simp only [O3] at h
  split at h
  · next s hs=>cases h;exact val s fun ρ hρ=>by unfold execOp;show Result.ok (Next.value (ρ x)) w=_;rw [hρ.dK (bT hs)]
  · cases h
 case assign x =>
  simp only [O3] at h
  split at h
  · next s hs=>cases h;exact val s fun ρ hρ=>by unfold execOp;show Result.ok (Next.value (ρ x)) w=_;rw [hρ.dK (bT hs)]
  · cases h
 case pick c x y =>
  simp only [O3] at h
  split at h
  · next hc =>
    split at h
    · next s hs =>
      cases h
      refine val s fun ρ hρ=>?_
      show (asBool (ρ c) >>= fun t=>pure (Next.value (if t then ρ x else ρ y))).run P w=_
      rw [hρ.dK (bT hc),hρ.dK (bT hs)];rfl
    · cases h
  · next hc =>
    split at h
    · next s hs =>
      cases h
      refine val s fun ρ hρ=>?_
      show (asBool (ρ c) >>= fun t=>pure (Next.value (if t then ρ x else ρ y))).run P w=_
      rw [hρ.dK (bT hc),hρ.dK (bT hs)];rfl
    · cases h
  · cases h
 case extract x i =>
  simp only [O3] at h
  split at h
  · next ls hl =>
    split at h
    · next s hs =>
      cases h
      refine val s fun ρ hρ=>dI _ w ?_
      rw [hρ.dK (bT hl)]
      rw [p8] at hs
      have e:(bZ α γ ls).toArray[i]?=some (den α γ s):=by rw [List.getElem?_toArray,jh,List.getElem?_map,hs];rfl
      simp [den,Instr.extract,e]
    · cases h
  · cases h
 case fieldAddr s x f =>
  simp only [O3] at h
  split at h
  · next b q hb =>
    split at h
    · next d hd =>
      cases h
      refine val _ fun ρ hρ=>dI _ w ?_
      rw [hρ.dK (bT hb)]
      exact hT.off s f d hd (α b) q w
    · cases h
  · cases h
 case alloc t =>
  simp only [O3] at h
  split at h
  · next cs hz =>
    split at h
    · next hf =>
      cases h
      rw [Bool.and_eq_true] at hf
      obtain ⟨z,h1,h2,h3,h4⟩:=hT.zero t cs hz
      have h0:(zeroValue t).run P w = .ok z w:=by
       cases hq:P.info? t with
       | none=>simp [hq] at h1
       | some i=>simp [hq] at h1;simp [zeroValue,typeInfo,hq,h1]
      have hc:Cb (w.alloc (.cells z.cells t)) w.heap.size t (bZ α γ cs):=by
       have:=Cb.new w t z.cells.toList
       rw [h2];simpa using this
      refine ⟨upd α k w.heap.size,w.alloc (.cells z.cells t),fun ρ hρ=>?_,hH.new k _ t cs hf.2 (h4 k) (Ex.alloc w _) rfl hc (h3 α γ),uS l hf.1⟩
      show (Instr.alloc t true (.tuple #[]) >>= fun u=>pure (Next.value u)).run P w = .ok (.value (.pointer (some ⟨upd α k w.heap.size k,0,none⟩))) _
      rw [upd_same]
      simp [Instr.alloc,Sem.run_bind,h0,newVar,newRow]
    · cases h
  · cases h
 case box t x =>
  simp only [O3] at h
  split at h
  · next s hs =>
    split at h
    · next cs hc =>
      split at h
      · next hf =>
        cases h
        simp only [Bool.and_eq_true] at hf
        have hcell:=EH (α:=α) hH.sc hc hf.1
        refine ⟨upd α k w.heap.size,w.alloc (.cells (bZ α γ cs).toArray t),fun ρ hρ=>?_,hH.new k _ t cs hf.2.2.2 hf.2.1 (Ex.alloc w _) rfl (Cb.new w t _) (lC hH.sc hf.1),uS l hf.2.2.1⟩
        show (Instr.box t (ρ x) >>= fun u=>pure (Next.value u)).run P w = .ok (.value (.pointer (some ⟨upd α k w.heap.size k,0,none⟩))) _
        rw [upd_same,hρ.dK (bT hs)]
        simp [Instr.box,Sem.run_bind,newVar,newRow,hcell]
      · cases h
    · cases h
  · cases h
 case load t x =>
  simp only [O3] at h
  split at h
  · next b q hb =>
    split at h
    · next u cs hB =>
      obtain ⟨hC,hlo,hp⟩:=hH.box b u cs hB
      split at h
      · next n hn =>
        split at h
        · next hl =>
          cases h
          obtain ⟨h1,dd,h2,h3⟩:=hT.size t n true hn
          refine val _ fun ρ hρ=>dI _ w ?_
          rw [hρ.dK (bT hb)]
          have hl':=Nat.eq_of_beq_eq_true hl
          have e:bZ α γ ((cs.drop q).take n)=((bZ α γ cs).drop q).take n:=by rw [zD,zF]
          have e2:(bZ α γ ((cs.drop q).take n)).length=n:=by rw [iD];exact hl'
          exact hC.load (part:=bZ α γ ((cs.drop q).take n)) (by rw [e2,e]) h2 h3 (by rw [e2];exact h1)
        · cases h
      · next n hn =>
        split at h
        · next s hs =>
          cases h
          obtain ⟨h1,dd,h2,h3⟩:=hT.size t n false hn
          refine val _ fun ρ hρ=>dI _ w ?_
          rw [hρ.dK (bT hb)]
          refine sK h2 h3 (hC.at ?_)
          rw [p8] at hs
          rw [jh,List.getElem?_map,hs];rfl
        · cases h
      · cases h
    · cases h
  · cases h
 case store t x y =>
  simp only [O3] at h
  split at h
  · next b q hb =>
    split at h
    · next u cs hB =>
      obtain ⟨hC,hlo,hp⟩:=hH.box b u cs hB
      have fin:∀ (vs:List SV) (hq:q+vs.length≤cs.length) (hk:D9 vs=true),(∀ ρ,Cons ρ (gI α γ l)→(Instr.storeAt t (.pointer (some ⟨α b,q,none⟩)) (ρ y)).run P w = .ok () (w.setCells (α b) q (bZ α γ vs))) →
        Does P w0 l Γ α γ w ⟨dst,.store t x y,ty,pos,aft,gu⟩ none ((b,u,De cs q vs)::Ea B b):=fun vs hq hk hr=>by
       have hd:K6 (bZ α γ cs) q (bZ α γ vs)=bZ α γ (De cs q vs):=by rw [uT,Gn _ _ _ (by rw [iD,iD];exact hq)]
       have hX:=uu (N:=α b) (bZ α γ vs) q w
       have hC':=uo (bZ α γ vs) q hC
       rw [hd] at hC'
       refine ⟨α,_,fun ρ hρ=>?_,(hH.put b u cs (De cs q vs) hB hX hC' (by rw [uT];exact Df hp (lC hH.sc hk))).congr (VK B b _),rfl⟩
       show (Instr.storeAt t (ρ x) (ρ y) >>= fun _=>pure Next.skip).run P w=_
       rw [hρ.dK (bT hb),Sem.run_bind,show den α γ (.p b q) = .pointer (some ⟨α b,q,none⟩) from rfl,hr ρ hρ];rfl
      split at h
      · next vs hs =>
        split at h
        · next n hn =>
          split at h
          · next hf =>
            cases h
            simp only [Bool.and_eq_true] at hf
            obtain ⟨h1,h2⟩:=hT.size t n true hn
            have hl:=Nat.eq_of_beq_eq_true hf.1
            have hq:=Nat.le_of_ble_eq_true hf.2.1
            refine fin vs hq hf.2.2 fun ρ hρ=>?_
            rw [hρ.dK (bT hs)]
            exact EI hC q _ (by rw [iD,iD];exact hq) t (by rw [iD,hl];exact h1) fun v hv=>(lS (lC hH.sc hf.2.2 v hv)).1
          · cases h
        · cases h
      · cases h
      · next s hns hnt hs =>
        split at h
        · next hn =>
          split at h
          · next hf =>
            cases h
            rw [Bool.and_eq_true] at hf
            obtain ⟨h1,h2⟩:=hT.size t 1 false hn
            have hq:=Nat.le_of_ble_eq_true hf.1
            have hpl:=zG (α:=α) hH.sc hf.2
            refine fin [s] hq (by show (Xv s&&true)=true;rw [hf.2];rfl) fun ρ hρ=>?_
            rw [hρ.dK (bT hs)]
            exact RA h1 (lS hpl).1 (lS hpl).2 (hC.at (List.getElem?_eq_getElem (by rw [iD];exact hq))) (hC.frozen q)
          · cases h
        · cases h
      · cases h
    · cases h
  · cases h
end Go.Proofs.YtgcieamfidoaoaaGreatDoor.Rf
