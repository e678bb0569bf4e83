/- Base. -/
import Derived.Test.YtgcieamfidoaoaaGreatDoorGac
set_option linter.all false
set_option maxHeartbeats 8000000
set_option maxRecDepth 100000
namespace Go.Proofs.YtgcieamfidoaoaaGreatDoor
namespace Rf
open Go Go.RowKit Pl
inductive SV where
 | v (x:Value)
 | p (b o:Nat)
 | c (g k:Nat)
 | a (l:List SV)
 | t (l:List SV)
 | f (fn:FuncId) (fs cap:List SV)
abbrev Env:=Nat→Nat
abbrev l7:=Nat→Nat→Value
mutual
def den (α:Env) (γ:l7):SV→Value
 | .v x=>x
 | .p b o=>.pointer (some ⟨α b,o,none⟩)
 | .c g k=>γ g k
 | .a l=>.agg (dU α γ l).toArray
 | .t l=>.tuple (dU α γ l).toArray
 | .f fn fs cap=>.func (.func fn) (dU α γ fs).toArray (dU α γ cap).toArray
def dU (α:Env) (γ:l7):List SV→List Value
 | []=>[]
 | x::l=>den α γ x::dU α γ l
end
mutual
def noP (k:Nat):SV→Bool
 | .v _=>true
 | .p b _=>!(Nat.beq b k)
 | .c _ _=>true
 | .a l=>uJ k l
 | .t l=>uJ k l
 | .f _ fs cap=>uJ k fs&&uJ k cap
def uJ (k:Nat):List SV→Bool
 | []=>true
 | x::l=>noP k x&&uJ k l
end
mutual
def noG (k:Nat):SV→Bool
 | .v _=>true
 | .p _ _=>true
 | .c g _=>!(Nat.beq g k)
 | .a l=>zD k l
 | .t l=>zD k l
 | .f _ fs cap=>zD k fs&&zD k cap
def zD (k:Nat):List SV→Bool
 | []=>true
 | x::l=>noG k x&&zD k l
end
def upd {A:Type} (α:Nat→A) (k:Nat) (N:A):Nat→A:=fun i=>if i=k then N else α i
theorem upd_same {A:Type} (α:Nat→A) (k:Nat) (N:A):upd α k N k=N:=by unfold upd;rw [if_pos rfl]
theorem upd_ne {A:Type} (α:Nat→A) {k i:Nat} (N:A) (h:i≠k):upd α k N i=α i:=by unfold upd;rw [if_neg h]
theorem adp {b k:Nat} (h:(!(Nat.beq b k))=true):b≠k:=by rintro rfl;rw [Nat.beq_refl] at h;cases h
mutual
theorem M3 {α:Env} {γ:l7} {k N:Nat}:∀ (s:SV),noP k s=true→den (upd α k N) γ s=den α γ s
 | .v x,_=>rfl
 | .p b o,h=>by have h1:(!(Nat.beq b k))=true:=h;show Value.pointer (some ⟨upd α k N b,o,none⟩)=_;rw [upd_ne _ _ (adp h1)];rfl
 | .c g j,_=>rfl
 | .a l,h=>by show Value.agg _=Value.agg _;rw [oO l h]
 | .t l,h=>by show Value.tuple _=Value.tuple _;rw [oO l h]
 | .f fn fs cap,h=>by have h1:(uJ k fs&&uJ k cap)=true:=h;rw [Bool.and_eq_true] at h1;show Value.func _ _ _=Value.func _ _ _;rw [oO fs h1.1,oO cap h1.2]
theorem oO {α:Env} {γ:l7} {k N:Nat}:∀ (l:List SV),uJ k l=true→dU (upd α k N) γ l=dU α γ l
 | [],_=>rfl
 | x::l,h=>by have h1:(noP k x&&uJ k l)=true:=h;rw [Bool.and_eq_true] at h1;show _::_=_::_;rw [M3 x h1.1,oO l h1.2]
end
mutual
theorem M4 {α:Env} {γ:l7} {k:Nat} {F:Nat→Value}:∀ (s:SV),noG k s=true→den α (upd γ k F) s=den α γ s
 | .v x,_=>rfl
 | .p b o,h=>rfl
 | .c g j,h=>by have h1:(!(Nat.beq g k))=true:=h;show upd γ k F g j=_;rw [upd_ne _ _ (adp h1)];rfl
 | .a l,h=>by show Value.agg _=Value.agg _;rw [qQ l h]
 | .t l,h=>by show Value.tuple _=Value.tuple _;rw [qQ l h]
 | .f fn fs cap,h=>by have h1:(zD k fs&&zD k cap)=true:=h;rw [Bool.and_eq_true] at h1;show Value.func _ _ _=Value.func _ _ _;rw [qQ fs h1.1,qQ cap h1.2]
theorem qQ {α:Env} {γ:l7} {k:Nat} {F:Nat→Value}:∀ (l:List SV),zD k l=true→dU α (upd γ k F) l=dU α γ l
 | [],_=>rfl
 | x::l,h=>by have h1:(noG k x&&zD k l)=true:=h;rw [Bool.and_eq_true] at h1;show _::_=_::_;rw [M4 x h1.1,qQ l h1.2]
end
theorem j6 (α:Env) (γ:l7):∀ l,dU α γ l=l.map (den α γ)
 | []=>rfl
 | x::l=>by show _::_=_::_;rw [j6 α γ l]
theorem jh (α:Env) (γ:l7) (l:List SV):(dU α γ l).length=l.length:=by rw [j6,List.length_map]
theorem DJ (α:Env) (γ:l7) (l m:List SV):dU α γ (l++m)=dU α γ l++dU α γ m:=by rw [j6,j6,j6,List.map_append]
theorem CV (α:Env) (γ:l7) (n:Nat) (l:List SV):dU α γ (l.take n)=(dU α γ l).take n:=by rw [j6,j6,List.map_take]
theorem CW (α:Env) (γ:l7) (n:Nat) (l:List SV):dU α γ (l.drop n)=(dU α γ l).drop n:=by rw [j6,j6,List.map_drop]
abbrev Fr:=List (Nat × SV)
def iI (α:Env) (γ:l7):Fr→List (Nat × Value)
 | []=>[]
 | (d,s)::l=>(d,den α γ s)::iI α γ l
def lk:Fr→Nat→Option SV
 | [],_=>none
 | (d,s)::l,t=>match Nat.beq d t with
  | true=>some s
  | false=>lk l t
theorem iC {α:Env} {γ:l7}:∀ (l:Fr) (t:Nat),Go.Proofs.YtgcieamfidoaoaaGreatDoor.Pl.look (iI α γ l) t=(lk l t).map (den α γ)
 | [],_=>rfl
 | (d,s)::l,t=>by
  unfold iI Go.Proofs.YtgcieamfidoaoaaGreatDoor.Pl.look lk;cases Nat.beq d t with
  | true=>rfl
  | false=>exact iC l t
def ev (l:Fr):Operand→Option SV
 | .tmp t=>lk l t
 | .const v=>some (.v v)
 | .global g=>some (.v (A0a g))
 | .func f=>some (.v (.func (.func f) #[] #[]))
theorem dJ {α:Env} {γ:l7} {l:Fr} {x:Operand} {s:SV} (h:ev l x=some s):fO (iI α γ l) x=some (den α γ s):=by
 cases x with
 | tmp t=>show Go.Proofs.YtgcieamfidoaoaaGreatDoor.Pl.look (iI α γ l) t=_;rw [iC,show lk l t=some s from h];rfl
 | const v=>obtain rfl:=Option.some.inj h;rfl
 | global g=>obtain rfl:=Option.some.inj h;rfl
 | func f=>obtain rfl:=Option.some.inj h;rfl
def evs (l:Fr):List Operand→Option (List SV)
 | []=>some []
 | x::xs=>match ev l x with
  | none=>none
  | some v=>match evs l xs with
   | none=>none
   | some vs=>some (v::vs)
theorem Ae {α:Env} {γ:l7} {l:Fr}:∀ {xs:List Operand} {ss:List SV},evs l xs=some ss→wo (iI α γ l) xs=some (dU α γ ss)
 | [],ss,h=>by obtain rfl:=Option.some.inj h;rfl
 | x::xs,ss,h=>by
  unfold evs at h;cases hx:ev l x with
  | none=>rw [hx] at h;cases h
  | some s =>
   rw [hx] at h;cases hxs:evs l xs with
   | none=>rw [hxs] at h;cases h
   | some us =>rw [hxs] at h;obtain rfl:=Option.some.inj h;unfold wo;rw [dJ hx,Ae hxs];rfl
abbrev Bx:=List (Nat × TypeId × List SV)
def kP:Bx→Nat→Option (TypeId × List SV)
 | [],_=>none
 | (b,x)::l,k=>match Nat.beq b k with
  | true=>some x
  | false=>kP l k
def GM (k:Nat):Fr→Bool
 | []=>true
 | (_,s)::l=>noP k s&&GM k l
def D9 (k:Nat):Bx→Bool
 | []=>true
 | (b,_,cs)::l=>!(Nat.beq b k)&&uJ k cs&&D9 k l
def Io (k:Nat):Fr→Bool
 | []=>true
 | (_,s)::l=>noG k s&&Io k l
def GN (k:Nat):Bx→Bool
 | []=>true
 | (_,_,cs)::l=>zD k cs&&GN k l
theorem yC {α:Env} {γ:l7} {k N:Nat}:∀ (l:Fr),GM k l=true→iI (upd α k N) γ l=iI α γ l
 | [],_=>rfl
 | (d,s)::l,h=>by have h1:(noP k s&&GM k l)=true:=h;rw [Bool.and_eq_true] at h1;show (_,_)::_=(_,_)::_;rw [M3 s h1.1,yC l h1.2]
theorem oD {α:Env} {γ:l7} {k:Nat} {F:Nat→Value}:∀ (l:Fr),Io k l=true→iI α (upd γ k F) l=iI α γ l
 | [],_=>rfl
 | (d,s)::l,h=>by have h1:(noG k s&&Io k l)=true:=h;rw [Bool.and_eq_true] at h1;show (_,_)::_=(_,_)::_;rw [M4 s h1.1,oD l h1.2]
theorem KA {k:Nat}:∀ {B:Bx} {b:Nat} {T:TypeId} {cs:List SV},D9 k B=true→kP B b=some (T,cs)→b≠k∧uJ k cs=true
 | [],_,_,_,_,h=>by cases h
 | (b',x,cs')::B,b,T,cs,h,e=>by
  have h1:(!(Nat.beq b' k)&&uJ k cs'&&D9 k B)=true:=h;rw [Bool.and_eq_true,Bool.and_eq_true] at h1;unfold kP at e;cases hb:Nat.beq b' b with
  | true =>rw [hb] at e;obtain rfl:=Nat.eq_of_beq_eq_true hb;cases e;exact ⟨adp h1.1.1,h1.1.2⟩
  | false =>rw [hb] at e;exact KA h1.2 e
theorem QW {k:Nat}:∀ {B:Bx} {b:Nat} {T:TypeId} {cs:List SV},GN k B=true→kP B b=some (T,cs)→zD k cs=true
 | [],_,_,_,_,h=>by cases h
 | (b',x,cs')::B,b,T,cs,h,e=>by
  have h1:(zD k cs'&&GN k B)=true:=h;rw [Bool.and_eq_true] at h1;unfold kP at e;cases hb:Nat.beq b' b with
  | true=>rw [hb] at e;cases e;exact h1.1
  | false=>rw [hb] at e;exact QW h1.2 e
def bU:Value→Bool
 | .agg _=>false
 | .tuple _=>false
 | .int .u32 _=>false
 | _=>true
def IE (w:World) (k:Nat):Prop:=∀ cs T m,w.heap[k]?=some (.cells cs T m)→∀ c∈cs.toList,∀ z,c≠.int .u32 z
structure Spec where
 P:(Nat→Prop)→World→(Nat→Value)→Prop
 keep:∀ {X:Nat→Prop} {w w':World} {f:Nat→Value},P X w f→w.heap.size≤w'.heap.size→(∀ k,k<w.heap.size→¬ X k→w'.heap[k]?=w.heap[k]?)→(∀ k,X k→IE w k)→(∀ k,X k→IE w' k)→P X w' f
 grow:∀ {X Y:Nat→Prop} {w:World} {f:Nat→Value},P X w f→(∀ k,Y k→X k∨w.heap.size≤k)→(∀ k,Y k→IE w k)→P Y w f
abbrev Gm:=List (Nat × Spec)
def lZ:Gm→Nat→Option Spec
 | [],_=>none
 | (g,S)::l,k=>match Nat.beq g k with
  | true=>some S
  | false=>lZ l k
def hasB (B:Bx) (b:Nat):Prop:=∃ x,kP B b=some x
def own (B:Bx) (α:Env) (k:Nat):Prop:=∃ b,hasB B b∧α b=k
structure Holds (w0:World) (B:Bx) (Γ:Gm) (α:Env) (γ:l7) (w:World):Prop where
 ex:aS w0 w
 box:∀ b T cs,kP B b=some (T,cs)→Cb w (α b) T (dU α γ cs)∧w0.heap.size≤α b∧∀ c∈dU α γ cs,bU c=true
 inj:∀ b b',hasB B b→hasB B b'→α b=α b'→b=b'
 sc:∀ g k,bU (γ g k)=true
 fact:∀ g S,lZ Γ g=some S→S.P (own B α) w (γ g)
theorem aah {v:Value} (h:bU v=true) (z:Int):v≠.int .u32 z:=by rintro rfl;cases h
theorem nI {v:Value} (h:bU v=true):v.oneCell'=true∧v.cells=#[v]:=by cases v<;>first | (cases h;done) | exact ⟨rfl,rfl⟩
theorem GQ {w:World} {N:Nat} {T:TypeId} {cs:List Value} (h:Cb w N T cs) (hp:∀ c∈cs,bU c=true):IE w N:=by intro cs' T' m e c hc z;rw [show w.heap[N]?=_ from h] at e;cases e;exact aah (hp c hc) z
theorem Holds.oq {w0:World} {B:Bx} {Γ:Gm} {α:Env} {γ:l7} {w:World} (h:Holds w0 B Γ α γ w) {k:Nat} (hk:own B α k):k<w.heap.size∧w0.heap.size≤k∧IE w k:=by obtain ⟨b,⟨⟨T,cs⟩,hb⟩,rfl⟩:=hk;obtain ⟨h1,h2,h3⟩:=h.box b T cs hb;exact ⟨h1.lt,h2,GQ h1 h3⟩
theorem Holds.ext {w0:World} {B:Bx} {Γ:Gm} {α:Env} {γ:l7} {w w':World} (h:Holds w0 B Γ α γ w) (hE:aS w w'):Holds w0 B Γ α γ w' where
 ex:=h.ex.trans hE
 box b T cs hb:=by
  obtain ⟨h1,h2,h3⟩:=h.box b T cs hb;exact ⟨h1.ex hE,h2,h3⟩
 inj:=h.inj
 sc:=h.sc
 fact g S hg:=by
  refine S.keep (h.fact g S hg) hE.size (fun k hk _=>hE.block k hk) (fun k hk=>(h.oq hk).2.2) fun k hk=>?_;obtain ⟨b,⟨⟨T,cs⟩,hb⟩,rfl⟩:=hk;obtain ⟨h1,h2,h3⟩:=h.box b T cs hb;exact GQ (h1.ex hE) h3
theorem Holds.add {w0:World} {B:Bx} {Γ:Gm} {α:Env} {γ:l7} {w:World} (h:Holds w0 B Γ α γ w) (g:Nat) (S:Spec) (F:Nat→Value) (hB:GN g B=true) (hs:∀ k,bU (F k)=true) (hP:S.P (own B α) w F) (hΓ:lZ Γ g=none) :
  Holds w0 B ((g,S)::Γ) α (upd γ g F) w where
 ex:=h.ex
 box b T cs hb:=by
  rw [qQ cs (QW hB hb)];exact h.box b T cs hb
 inj:=h.inj
 sc i k:=by
  unfold upd;split
  · exact hs k
  · exact h.sc i k
 fact i S' hi:=by
  unfold lZ at hi;cases hb:Nat.beq g i with
  | true =>rw [hb] at hi;obtain rfl:=Nat.eq_of_beq_eq_true hb;cases hi;rw [upd_same];exact hP
  | false =>rw [hb] at hi;rw [upd_ne _ _ (fun e=>Nat.ne_of_beq_eq_false hb e.symm)];exact h.fact i S' hi
theorem Holds.new {w0:World} {B:Bx} {Γ:Gm} {α:Env} {γ:l7} {w w':World} (h:Holds w0 B Γ α γ w) (k N:Nat) (T:TypeId) (cs:List SV) (hB:D9 k B=true) (hc:uJ k cs=true) (hE:aS w w') (hN:N=w.heap.size) (hC:Cb w' N T (dU α γ cs)) (hp:∀ c∈dU α γ cs,bU c=true) :Holds w0 ((k,T,cs)::B) Γ (upd α k N) γ w':=by
 have hne:∀ b,hasB B b→b≠k∧α b≠N:=fun b ⟨⟨T',cs'⟩,hb⟩=>⟨(KA hB hb).1,fun e=>by have:=(h.box b T' cs' hb).1.lt;omega⟩
 have hhas:∀ b,hasB ((k,T,cs)::B) b→b=k∨b≠k∧hasB B b:=fun b ⟨x,hx⟩=>by
  unfold kP at hx;cases hb:Nat.beq k b with
  | true=>exact .inl (Nat.eq_of_beq_eq_true hb).symm
  | false=>rw [hb] at hx;exact .inr ⟨fun e=>Nat.ne_of_beq_eq_false hb e.symm,x,hx⟩
 have Xq:∀ b T1 c1,kP ((k,T,cs)::B) b=some (T1,c1)→Cb w' (upd α k N b) T1 (dU (upd α k N) γ c1)∧w0.heap.size≤upd α k N b∧∀ c∈dU (upd α k N) γ c1,bU c=true:=by
  intro b T1 c1 hb;unfold kP at hb;cases hbb:Nat.beq k b with
  | true =>rw [hbb] at hb;obtain rfl:=Nat.eq_of_beq_eq_true hbb;cases hb;rw [upd_same,oO _ hc];exact ⟨hC,by have:=h.ex.size;omega,hp⟩
  | false =>rw [hbb] at hb;obtain ⟨h1,h2⟩:=KA hB hb;obtain ⟨h3,h4,h5⟩:=h.box b T1 c1 hb;rw [upd_ne _ _ h1,oO _ h2];exact ⟨h3.ex hE,h4,h5⟩
 refine ⟨h.ex.trans hE,Xq,?_,h.sc,fun g S hg=>?_⟩
 · intro b b' h1 h2 e;rcases hhas b h1 with e1 | ⟨n1,h1⟩<;>rcases hhas b' h2 with e2 | ⟨n2,h2⟩
   · rw [e1,e2]
   · rw [e1,upd_same,upd_ne _ _ n2] at e;exact absurd e.symm (hne _ h2).2
   · rw [e2,upd_same,upd_ne _ _ n1] at e;exact absurd e (hne _ h1).2
   · rw [upd_ne _ _ n1,upd_ne _ _ n2] at e;exact h.inj b b' h1 h2 e
 · have hno:∀ q,own ((k,T,cs)::B) (upd α k N) q→IE w' q:=(by rintro q ⟨b,⟨⟨T1,c1⟩,hb⟩,rfl⟩;obtain ⟨h1,h2,h3⟩:=Xq b T1 c1 hb;exact GQ h1 h3);have hf:=S.keep (h.fact g S hg) hE.size (fun q hq _=>hE.block q hq) (fun q hq=>(h.oq hq).2.2) (fun q hq=>by obtain ⟨b,⟨⟨T1,c1⟩,hb⟩,rfl⟩:=hq;obtain ⟨h1,h2,h3⟩:=h.box b T1 c1 hb;exact GQ (h1.ex hE) h3)
   -- the new block is younger than all that the fact speaks of: told at the old world first
   have hg0:=S.grow (Y:=own ((k,T,cs)::B) (upd α k N)) (h.fact g S hg) (fun q ⟨b,hb,e⟩=>by
    rcases hhas b hb with rfl | ⟨n1,h1⟩
    · rw [upd_same] at e;right;omega
    · rw [upd_ne _ _ n1] at e;left;exact ⟨b,h1,e⟩) (fun q ⟨b,hb,e⟩=>by
    rcases hhas b hb with rfl | ⟨n1,h1⟩
    · rw [upd_same] at e;intro cs' T' m hm;rw [Array.getElem?_eq_none (by omega)] at hm;cases hm
    · rw [upd_ne _ _ n1] at e;exact (h.oq ⟨b,h1,e⟩).2.2)
   exact S.keep hg0 hE.size (fun q hq _=>hE.block q hq) (fun q ⟨b,hb,e⟩=>by
    rcases hhas b hb with rfl | ⟨n1,h1⟩
    · rw [upd_same] at e;intro cs' T' m hm;rw [Array.getElem?_eq_none (by omega)] at hm;cases hm
    · rw [upd_ne _ _ n1] at e;exact (h.oq ⟨b,h1,e⟩).2.2) hno
theorem Holds.put {w0:World} {B:Bx} {Γ:Gm} {α:Env} {γ:l7} {w w':World} (h:Holds w0 B Γ α γ w) (b:Nat) (T:TypeId) (old cs:List SV) (hb:kP B b=some (T,old)) (hX:Xs [α b] w w') (hC:Cb w' (α b) T (dU α γ cs)) (hp:∀ c∈dU α γ cs,bU c=true) :Holds w0 ((b,T,cs)::B) Γ α γ w':=by
 have hlk:∀ q,hasB ((b,T,cs)::B) q↔hasB B q:=fun q=>by
  constructor
  · rintro ⟨x,hx⟩;unfold kP at hx;cases hq:Nat.beq b q with
    | true=>obtain rfl:=Nat.eq_of_beq_eq_true hq;exact ⟨_,hb⟩
    | false=>rw [hq] at hx;exact ⟨x,hx⟩
  · rintro ⟨x,hx⟩;cases hq:Nat.beq b q with
    | true=>exact ⟨(T,cs),by unfold kP;rw [hq]⟩
    | false=>exact ⟨x,by unfold kP;rw [hq];exact hx⟩
 have hown:∀ q,own ((b,T,cs)::B) α q↔own B α q:=fun q=>⟨fun ⟨c,h1,h2⟩=>⟨c,(hlk c).1 h1,h2⟩,fun ⟨c,h1,h2⟩=>⟨c,(hlk c).2 h1,h2⟩⟩
 have Xq:∀ q T1 c1,kP ((b,T,cs)::B) q=some (T1,c1)→Cb w' (α q) T1 (dU α γ c1)∧w0.heap.size≤α q∧∀ c∈dU α γ c1,bU c=true:=by
  intro q T1 c1 hq;unfold kP at hq;cases hbb:Nat.beq b q with
  | true =>rw [hbb] at hq;obtain rfl:=Nat.eq_of_beq_eq_true hbb;cases hq;exact ⟨hC,(h.box _ _ _ hb).2.1,hp⟩
  | false =>rw [hbb] at hq;obtain ⟨h3,h4,h5⟩:=h.box q T1 c1 hq;refine ⟨h3.xs hX (fun hm=>?_),h4,h5⟩;have e:α q=α b:=(by simpa using hm);exact Nat.ne_of_beq_eq_false hbb (h.inj q b ⟨_,hq⟩ ⟨_,hb⟩ e).symm
 have hno:∀ q,own ((b,T,cs)::B) α q→IE w' q:=by rintro q ⟨c,⟨⟨T1,c1⟩,hc⟩,rfl⟩;obtain ⟨h1,h2,h3⟩:=Xq c T1 c1 hc;exact GQ h1 h3
 refine ⟨h.ex.xs hX (h.box _ _ _ hb).2.1,Xq,fun q q' h1 h2=>h.inj q q' ((hlk q).1 h1) ((hlk q').1 h2),h.sc,fun g S hg=>?_⟩;have h0:=S.grow (Y:=own ((b,T,cs)::B) α) (h.fact g S hg) (fun q hq=>.inl ((hown q).1 hq)) (fun q hq=>(h.oq ((hown q).1 hq)).2.2);exact S.keep h0 hX.size (fun q hq hn=>hX.block q hq (fun hm=>hn ⟨b,(hlk b).2 ⟨_,hb⟩,List.mem_singleton.1 hm |>.symm⟩)) (fun q hq=>(h.oq ((hown q).1 hq)).2.2) hno
structure TI where
 zero:TypeId→Option (List SV)
 size:TypeId→Option (Nat × Bool)
 off:TypeId→Nat→Option Nat
structure BX (P:Program) (T:TI):Prop where
 zero:∀ t cs,T.zero t=some cs→∃ z,(P.info? t).map (fun i=>i.zero)=some (some z)∧(∀ α γ,dU α γ cs=z.cells.toList)∧(∀ α γ,∀ c∈dU α γ cs,bU c=true)∧(∀ k,uJ k cs=true)
 size:∀ t n r,T.size t=some (n,r)→(P.info? t).map (·.size)=some n∧∃ d,P.underlying t=some d∧d.isRow=r
 off:∀ s f o,T.off s f=some o→∀ N q X,(Instr.fieldAt s (.pointer (some ⟨N,q,none⟩)) f).run P X = .ok (.pointer (some ⟨N,q+o,none⟩)) X
def uK {A:Type}:List A→Nat→Option A
 | [],_=>none
 | x::_,0=>some x
 | _::l,n+1=>uK l n
theorem sQ {A:Type}:∀ (l:List A) (i:Nat),uK l i=l[i]?
 | [],_=>by simp [uK]
 | _::_,0=>by simp [uK]
 | _::l,n+1=>by simp only [uK,sQ l n,List.getElem?_cons_succ]
def cellsOf:SV→Option (List SV)
 | .a l=>some l
 | .t _=>none
 | x=>some [x]
def okc:SV→Bool
 | .v x=>bU x
 | .p _ _=>true
 | .c _ _=>true
 | .f _ _ _=>true
 | _=>false
def Ip:List SV→Bool
 | []=>true
 | x::l=>okc x&&Ip l
theorem CX {α:Env} {γ:l7} (hγ:∀ g k,bU (γ g k)=true) {s:SV} (h:okc s=true):bU (den α γ s)=true:=by
 cases s with
 | v x=>exact h
 | p b o=>rfl
 | c g k=>exact hγ g k
 | a l=>cases h
 | t l=>cases h
 | f fn fs cap=>rfl
theorem mW {α:Env} {γ:l7} (hγ:∀ g k,bU (γ g k)=true):∀ {l:List SV},Ip l=true→∀ c∈dU α γ l,bU c=true
 | [],_,c,hc=>by cases hc
 | x::l,h,c,hc=>by
  have h1:(okc x&&Ip l)=true:=h;rw [Bool.and_eq_true] at h1;rcases List.mem_cons.1 (show c∈den α γ x::dU α γ l from hc) with rfl | hc
  · exact CX hγ h1.1
  · exact mW hγ h1.2 c hc
theorem Jf {α:Env} {γ:l7} (hγ:∀ g k,bU (γ g k)=true) {s:SV} {cs:List SV} (h:cellsOf s=some cs) (hk:Ip cs=true):(den α γ s).cells=(dU α γ cs).toArray:=by
 cases s with
 | a l=>obtain rfl:=Option.some.inj h;rfl
 | t l=>cases h
 | v x =>obtain rfl:=Option.some.inj h;have h1:(okc (.v x)&&true)=true:=hk;rw [Bool.and_true] at h1;exact (nI (show bU x=true from h1)).2
 | p b o=>obtain rfl:=Option.some.inj h;rfl
 | c g k=>obtain rfl:=Option.some.inj h;exact (nI (hγ g k)).2
 | f fn fs cap=>obtain rfl:=Option.some.inj h;rfl
def GR (cs:List SV) (o:Nat) (vs:List SV):List SV:=cs.take o++(vs++cs.drop (Nat.add o vs.length))
def Iq:Bx→Nat→Bx
 | [],_=>[]
 | (b,x)::l,k=>match Nat.beq b k with
  | true=>Iq l k
  | false=>(b,x)::Iq l k
theorem KC:∀ (B:Bx) (k b:Nat),b≠k→kP (Iq B k) b=kP B b
 | [],_,_,_=>rfl
 | (q,x)::l,k,b,h=>by
  cases hq:Nat.beq q k with
  | true =>
   have e:=Nat.eq_of_beq_eq_true hq;cases hb:Nat.beq q b with
   | true=>exact absurd (by rw [← Nat.eq_of_beq_eq_true hb,e]) h
   | false=>simp only [Iq,hq,kP,hb];exact KC l k b h
  | false =>
   cases hb:Nat.beq q b with
   | true=>simp only [Iq,hq,kP,hb]
   | false=>simp only [Iq,hq,kP,hb];exact KC l k b h
theorem aai (B:Bx) (b:Nat) (x:TypeId × List SV) (q:Nat):kP ((b,x)::Iq B b) q=kP ((b,x)::B) q:=by
 unfold kP;cases hb:Nat.beq b q with
 | true=>rfl
 | false=>exact KC B b q (fun e=>Nat.ne_of_beq_eq_false hb e.symm)
theorem Holds.congr {w0:World} {B B':Bx} {Γ:Gm} {α:Env} {γ:l7} {w:World} (h:Holds w0 B Γ α γ w) (e:∀ b,kP B' b=kP B b):Holds w0 B' Γ α γ w:=by
 have e1:kP B'=kP B:=funext e;have e2:own B' α=own B α:=by unfold own hasB;rw [e1]
 refine ⟨h.ex,fun b T cs hb=>h.box b T cs (by rw [← e];exact hb),fun b b' h1 h2=>h.inj b b' ?_ ?_,h.sc,fun g S hg=>by rw [e2];exact h.fact g S hg⟩
 · obtain ⟨x,hx⟩:=h1;exact ⟨x,by rw [← e];exact hx⟩
 · obtain ⟨x,hx⟩:=h2;exact ⟨x,by rw [← e];exact hx⟩
def Ti (T:TI) (l:Fr) (B:Bx) (k:Nat):Op→Option (Option SV × Bx × Nat)
 | .move x=>match ev l x with
  | some s=>some (some s,B,k)
  | none=>none
 | .assign x=>match ev l x with
  | some s=>some (some s,B,k)
  | none=>none
 | .pick c x y=>match ev l c with
  | some (.v (.bool true))=>match ev l x with
   | some s=>some (some s,B,k)
   | none=>none
  | some (.v (.bool false))=>match ev l y with
   | some s=>some (some s,B,k)
   | none=>none
  | _=>none
 | .extract x i=>match ev l x with
  | some (.t ls)=>match uK ls i with
   | some s=>some (some s,B,k)
   | none=>none
  | _=>none
 | .fieldAddr s x f=>match ev l x with
  | some (.p b o)=>match T.off s f with
   | some d=>some (some (.p b (Nat.add o d)),B,k)
   | none=>none
  | _=>none
 | .alloc t=>match T.zero t with
  | some cs=>match GM k l&&D9 k B with
   | true=>some (some (.p k 0),(k,t,cs)::B,Nat.succ k)
   | false=>none
  | none=>none
 | .box t x=>match ev l x with
  | some s=>match cellsOf s with
   | some cs=>match Ip cs&&(uJ k cs&&(GM k l&&D9 k B)) with
    | true=>some (some (.p k 0),(k,t,cs)::B,Nat.succ k)
    | false=>none
   | none=>none
  | none=>none
 | .load t x=>match ev l x with
  | some (.p b o)=>match kP B b with
   | some (_,cs)=>match T.size t with
    | some (n,true)=>match Nat.beq ((cs.drop o).take n).length n with
     | true=>some (some (.a ((cs.drop o).take n)),B,k)
     | false=>none
    | some (_,false)=>match uK cs o with
     | some s=>some (some s,B,k)
     | none=>none
    | none=>none
   | none=>none
  | _=>none
 | .store t x y=>match ev l x with
  | some (.p b o)=>match kP B b with
   | some (u,cs)=>match ev l y with
    | some (.a vs)=>match T.size t with
     | some (n,true)=>match Nat.beq vs.length n&&(Nat.ble (Nat.add o vs.length) cs.length&&Ip vs) with
      | true=>some (none,(b,u,GR cs o vs)::Iq B b,k)
      | false=>none
     | _=>none
    | some (.t _)=>none
    | some s=>match T.size t with
     | some (1,false)=>match Nat.ble (Nat.succ o) cs.length&&okc s with
      | true=>some (none,(b,u,GR cs o [s])::Iq B b,k)
      | false=>none
     | _=>none
    | none=>none
   | none=>none
  | _=>none
 | _=>none
def Pg:List Value→Nat→List Value→List Value
 | cs,_,[]=>cs
 | cs,o,v::vs=>Pg (cs.set o v) (o+1) vs
theorem KD:∀ (vs:List Value) (cs:List Value) (o:Nat),o+vs.length≤cs.length→Pg cs o vs=cs.take o++(vs++cs.drop (o+vs.length))
 | [],cs,o,_=>by simp [Pg]
 | v::vs,cs,o,h=>by
  have hl:o<cs.length:=by simp at h;omega
  unfold Pg;rw [KD vs (cs.set o v) (o+1) (by simp at h ⊢;omega)];have e1:(cs.set o v).take (o+1)=cs.take o++[v]:=by rw [List.take_succ,List.getElem?_set_self hl,List.take_set_of_le (Nat.le_refl _)];rfl
  have e2:(cs.set o v).drop (o+1+vs.length)=cs.drop (o+1+vs.length):=List.drop_set_of_lt (by omega);rw [e1,e2,List.length_cons,show o+(vs.length+1)=o+1+vs.length by omega];simp
theorem xR {N:Nat} {T:TypeId}:∀ (vs:List Value) (o:Nat) {w:World} {cs:List Value},Cb w N T cs→Cb (w.setCells N o vs) N T (Pg cs o vs)
 | [],_,_,_,h=>h
 | v::vs,o,_,_,h=>xR vs (o+1) (Cb.set h o v)
theorem xS {N:Nat}:∀ (vs:List Value) (o:Nat) (w:World),Xs [N] w (w.setCells N o vs)
 | [],_,w=>Xs.ex (aS.refl w)
 | v::vs,o,w=>(Xs.set w N o v).trans (xS vs (o+1) _)
theorem Jg {P:Program} {w:World} {N:Nat} {T:TypeId} {cs:List Value} (h:Cb w N T cs) (o:Nat) (vs:List Value) (hl:o+vs.length≤cs.length) (ty:TypeId) (hi:(P.info? ty).map (·.size)=some vs.length) (h1:∀ v∈vs,v.oneCell'=true) :(Instr.storeAt ty (.pointer (some ⟨N,o,none⟩)) (.agg vs.toArray)).run P w = .ok () (w.setCells N o vs):=by
 have ht:w.there N o vs.toArray.size:=fun j hj=>by
  have hj:j<vs.length:=by simpa using hj
  have hlt:o+j<cs.length:=by omega
  refine ⟨by rw [h.at (List.getElem?_eq_getElem hlt)];rfl,?_⟩;unfold Cb at h;simp [World.frozen?,h]
 have:=run_storeAt_mid (P:=P) w N o ty vs.toArray ht (by simpa using hi) (all_oneCell_toArray h1);omega
theorem yD (α:Env) (γ:l7) (cs:List SV) (o:Nat) (vs:List SV):dU α γ (GR cs o vs)=(dU α γ cs).take o++(dU α γ vs++(dU α γ cs).drop (o+(dU α γ vs).length)):=by unfold GR;rw [DJ,DJ,CV,CW,jh];rfl
theorem GU {cs vs:List Value} {o:Nat} (h1:∀ c∈cs,bU c=true) (h2:∀ c∈vs,bU c=true):∀ c∈cs.take o++(vs++cs.drop (o+vs.length)),bU c=true:=by grind
def Does (P:Program) (w0:World) (l:Fr) (Γ:Gm) (α:Env) (γ:l7) (w:World) (o:Oper) (out:Option SV) (B':Bx):Prop :=
 ∃ α' w',(∀ ρ,Cons ρ (iI α γ l)→(execOp ρ o).run P w = .ok (match out with | some s=>.value (den α' γ s) | none=>.skip) w')∧Holds w0 B' Γ α' γ w'∧iI α' γ l=iI α γ l
theorem Xr {P:Program} {T:TI} (hT:BX P T) {w0:World} {l:Fr} {B B':Bx} {Γ:Gm} {k k':Nat} {α:Env} {γ:l7} {w:World} {o:Oper} {out:Option SV} (hH:Holds w0 B Γ α γ w) (h:Ti T l B k o.op=some (out,B',k')):Does P w0 l Γ α γ w o out B':=by
 obtain ⟨dst,op,ty,pos,aft,gu⟩:=o;dsimp only at h;have val:∀ (s:SV),(∀ ρ,Cons ρ (iI α γ l)→(execOp ρ ⟨dst,op,ty,pos,aft,gu⟩).run P w = .ok (.value (den α γ s)) w)→Does P w0 l Γ α γ w ⟨dst,op,ty,pos,aft,gu⟩ (some s) B:=fun s hs=>⟨α,w,hs,hH,rfl⟩;cases op<;>try (cases h;done)
 case move x =>
  simp only [Ti] at h;split at h
  · next s hs=>cases h;exact val s fun ρ hρ=>by unfold execOp;show Result.ok (Next.value (ρ x)) w=_;rw [hρ.fO (dJ hs)]
  · cases h
 case assign x =>
  simp only [Ti] at h;split at h
  · next s hs=>cases h;exact val s fun ρ hρ=>by unfold execOp;show Result.ok (Next.value (ρ x)) w=_;rw [hρ.fO (dJ hs)]
  · cases h
 case pick c x y =>
  simp only [Ti] at h;split at h
  · next hc =>
    split at h
    · next s hs =>cases h;refine val s fun ρ hρ=>?_;show (asBool (ρ c) >>= fun t=>pure (Next.value (if t then ρ x else ρ y))).run P w=_;rw [hρ.fO (dJ hc),hρ.fO (dJ hs)];rfl
    · cases h
  · next hc =>
    split at h
    · next s hs =>cases h;refine val s fun ρ hρ=>?_;show (asBool (ρ c) >>= fun t=>pure (Next.value (if t then ρ x else ρ y))).run P w=_;rw [hρ.fO (dJ hc),hρ.fO (dJ hs)];rfl
    · cases h
  · cases h
 case extract x i =>
  simp only [Ti] at h;split at h
  · next ls hl =>
    split at h
    · next s hs =>cases h;refine val s fun ρ hρ=>fI _ w ?_;rw [hρ.fO (dJ hl)];rw [sQ] at hs;have e:(dU α γ ls).toArray[i]?=some (den α γ s):=(by rw [List.getElem?_toArray,j6,List.getElem?_map,hs];rfl);simp [den,Instr.extract,e]
    · cases h
  · cases h
 case fieldAddr s x f =>
  simp only [Ti] at h;split at h
  · next b q hb =>
    split at h
    · next d hd =>cases h;refine val _ fun ρ hρ=>fI _ w ?_;rw [hρ.fO (dJ hb)];exact hT.off s f d hd (α b) q w
    · cases h
  · cases h
 case alloc t =>
  simp only [Ti] at h;split at h
  · next cs hz =>
    split at h
    · next hf =>
      cases h;rw [Bool.and_eq_true] at hf;obtain ⟨z,h1,h2,h3,h4⟩:=hT.zero t cs hz
      have h0:(zeroValue t).run P w = .ok z w:=by
       cases hq:P.info? t with
       | none=>simp [hq] at h1
       | some i=>simp [hq] at h1;simp [zeroValue,typeInfo,hq,h1]
      have hc:Cb (w.alloc (.cells z.cells t)) w.heap.size t (dU α γ cs):=(by have:=Cb.new w t z.cells.toList;rw [h2];simpa using this);refine ⟨upd α k w.heap.size,w.alloc (.cells z.cells t),fun ρ hρ=>?_,hH.new k _ t cs hf.2 (h4 k) (aS.alloc w _) rfl hc (h3 α γ),yC l hf.1⟩;show (Instr.alloc t true (.tuple #[]) >>= fun u=>pure (Next.value u)).run P w = .ok (.value (.pointer (some ⟨upd α k w.heap.size k,0,none⟩))) _;rw [upd_same];simp [Instr.alloc,Sem.run_bind,h0,newVar,newRow]
    · cases h
  · cases h
 case box t x =>
  simp only [Ti] at h;split at h
  · next s hs =>
    split at h
    · next cs hc =>
      split at h
      · next hf =>cases h;simp only [Bool.and_eq_true] at hf;have hcell:=Jf (α:=α) hH.sc hc hf.1;refine ⟨upd α k w.heap.size,w.alloc (.cells (dU α γ cs).toArray t),fun ρ hρ=>?_,hH.new k _ t cs hf.2.2.2 hf.2.1 (aS.alloc w _) rfl (Cb.new w t _) (mW hH.sc hf.1),yC l hf.2.2.1⟩;show (Instr.box t (ρ x) >>= fun u=>pure (Next.value u)).run P w = .ok (.value (.pointer (some ⟨upd α k w.heap.size k,0,none⟩))) _;rw [upd_same,hρ.fO (dJ hs)];simp [Instr.box,Sem.run_bind,newVar,newRow,hcell]
      · cases h
    · cases h
  · cases h
 case load t x =>
  simp only [Ti] at h;split at h
  · next b q hb =>
    split at h
    · next u cs hB =>
      obtain ⟨hC,hlo,hp⟩:=hH.box b u cs hB;split at h
      · next n hn =>
        split at h
        · next hl =>cases h;obtain ⟨h1,dd,h2,h3⟩:=hT.size t n true hn;refine val _ fun ρ hρ=>fI _ w ?_;rw [hρ.fO (dJ hb)];have hl':=Nat.eq_of_beq_eq_true hl;have e:dU α γ ((cs.drop q).take n)=((dU α γ cs).drop q).take n:=(by rw [CV,CW]);have e2:(dU α γ ((cs.drop q).take n)).length=n:=(by rw [jh];exact hl');exact hC.load (part:=dU α γ ((cs.drop q).take n)) (by rw [e2,e]) h2 h3 (by rw [e2];exact h1)
        · cases h
      · next n hn =>
        split at h
        · next s hs =>cases h;obtain ⟨h1,dd,h2,h3⟩:=hT.size t n false hn;refine val _ fun ρ hρ=>fI _ w ?_;rw [hρ.fO (dJ hb)];refine wG h2 h3 (hC.at ?_);rw [sQ] at hs;rw [j6,List.getElem?_map,hs];rfl
        · cases h
      · cases h
    · cases h
  · cases h
 case store t x y =>
  simp only [Ti] at h;split at h
  · next b q hb =>
    split at h
    · next u cs hB =>
      obtain ⟨hC,hlo,hp⟩:=hH.box b u cs hB
      have fin:∀ (vs:List SV) (hq:q+vs.length≤cs.length) (hk:Ip vs=true),(∀ ρ,Cons ρ (iI α γ l)→(Instr.storeAt t (.pointer (some ⟨α b,q,none⟩)) (ρ y)).run P w = .ok () (w.setCells (α b) q (dU α γ vs))) →
        Does P w0 l Γ α γ w ⟨dst,.store t x y,ty,pos,aft,gu⟩ none ((b,u,GR cs q vs)::Iq B b):=fun vs hq hk hr=>by
       have hd:Pg (dU α γ cs) q (dU α γ vs)=dU α γ (GR cs q vs):=(by rw [yD,KD _ _ _ (by rw [jh,jh];exact hq)]);have hX:=xS (N:=α b) (dU α γ vs) q w;have hC':=xR (dU α γ vs) q hC;rw [hd] at hC';refine ⟨α,_,fun ρ hρ=>?_,(hH.put b u cs (GR cs q vs) hB hX hC' (by rw [yD];exact GU hp (mW hH.sc hk))).congr (aai B b _),rfl⟩;show (Instr.storeAt t (ρ x) (ρ y) >>= fun _=>pure Next.skip).run P w=_;rw [hρ.fO (dJ hb),Sem.run_bind,show den α γ (.p b q) = .pointer (some ⟨α b,q,none⟩) from rfl,hr ρ hρ];rfl
      split at h
      · next vs hs =>
        split at h
        · next n hn =>
          split at h
          · next hf =>cases h;simp only [Bool.and_eq_true] at hf;obtain ⟨h1,h2⟩:=hT.size t n true hn;have hl:=Nat.eq_of_beq_eq_true hf.1;have hq:=Nat.le_of_ble_eq_true hf.2.1;refine fin vs hq hf.2.2 fun ρ hρ=>?_;rw [hρ.fO (dJ hs)];exact Jg hC q _ (by rw [jh,jh];exact hq) t (by rw [jh,hl];exact h1) fun v hv=>(nI (mW hH.sc hf.2.2 v hv)).1
          · cases h
        · cases h
      · cases h
      · next s hns hnt hs =>
        split at h
        · next hn =>
          split at h
          · next hf =>cases h;rw [Bool.and_eq_true] at hf;obtain ⟨h1,h2⟩:=hT.size t 1 false hn;have hq:=Nat.le_of_ble_eq_true hf.1;have hpl:=CX (α:=α) hH.sc hf.2;refine fin [s] hq (by show (okc s&&true)=true;rw [hf.2];rfl) fun ρ hρ=>?_;rw [hρ.fO (dJ hs)];exact WC h1 (nI hpl).1 (nI hpl).2 (hC.at (List.getElem?_eq_getElem (by rw [jh];exact hq))) (hC.frozen q)
          · cases h
        · cases h
      · cases h
    · cases h
  · cases h
