/- What operations do, in three kinds: the world stays; a box is made; a box is written. Told of a part of what is known. -/
import Derived.Test.YtgcieamfidoaoaaGreatDoorBab
set_option linter.all false
set_option maxHeartbeats 8000000
namespace Go.Proofs.YtgcieamfidoaoaaGreatDoor.Rf
open Go Go.RowKit Go.Proofs.YtgcieamfidoaoaaGreatDoor.Pl
set_option maxRecDepth 100000
inductive Eff where
 | pure (s:SV)
 | new (t:TypeId) (cs:List SV)
 | put (b:Nat) (t:TypeId) (cs:List SV)
def Di (T:TI) (l:Fr) (B:Bx):Op→Option Eff
 | .move x=>match ev l x with
  | some s=>some (.pure s)
  | none=>none
 | .assign x=>match ev l x with
  | some s=>some (.pure s)
  | none=>none
 | .pick c x y=>match ev l c with
  | some (.v (.bool true))=>match ev l x with
   | some s=>some (.pure s)
   | none=>none
  | some (.v (.bool false))=>match ev l y with
   | some s=>some (.pure s)
   | none=>none
  | _=>none
 | .extract x i=>match ev l x with
  | some (.t ls)=>match qL ls i with
   | some s=>some (.pure s)
   | none=>none
  | _=>none
 | .fieldAddr s x f=>match ev l x with
  | some (.p b o)=>match T.off s f with
   | some d=>some (.pure (.p b (Nat.add o d)))
   | none=>none
  | _=>none
 | .alloc t=>match T.zero t with
  | some cs=>some (.new t cs)
  | none=>none
 | .box t x=>match ev l x with
  | some s=>match cellsOf s with
   | some cs=>match D9 cs with
    | true=>some (.new t cs)
    | false=>none
   | none=>none
  | none=>none
 | .load t x=>match ev l x with
  | some (.p b o)=>match jU B b with
   | some (_,cs)=>match T.size t with
    | some (n,true)=>match Nat.beq ((cs.drop o).take n).length n with
     | true=>some (.pure (.a ((cs.drop o).take n)))
     | false=>none
    | some (_,false)=>match qL cs o with
     | some s=>some (.pure s)
     | none=>none
    | none=>none
   | none=>none
  | _=>none
 | .store t x y=>match ev l x with
  | some (.p b o)=>match jU B b with
   | some (u,cs)=>match ev l y with
    | some (.a vs)=>match T.size t with
     | some (n,true)=>match Nat.beq vs.length n&&(Nat.ble (Nat.add o vs.length) cs.length&&D9 vs) with
      | true=>some (.put b u (De cs o vs))
      | false=>none
     | _=>none
    | some (.t _)=>none
    | some s=>match T.size t with
     | some (1,false)=>match Nat.ble (Nat.succ o) cs.length&&Xv s with
      | true=>some (.put b u (De cs o [s]))
      | false=>none
     | _=>none
    | none=>none
   | none=>none
  | _=>none
 | _=>none
def VN (P:Program) (l:Fr) (B:Bx) (α:Env) (γ:kR) (w:World) (o:Oper):Eff→Prop
 | .pure s=>∀ ρ,Cons ρ (gI α γ l)→(execOp ρ o).run P w = .ok (.value (den α γ s)) w
 | .new t cs=>∃ w',Ex w w'∧Cb w' w.heap.size t (bZ α γ cs)∧(∀ c∈bZ α γ cs,bG c=true)∧∀ ρ,Cons ρ (gI α γ l)→(execOp ρ o).run P w = .ok (.value (.pointer (some ⟨w.heap.size,0,none⟩))) w'
 | .put b t cs=>∃ w' old,jU B b=some (t,old)∧Xs [α b] w w'∧Cb w' (α b) t (bZ α γ cs)∧(∀ c∈bZ α γ cs,bG c=true)∧∀ ρ,Cons ρ (gI α γ l)→(execOp ρ o).run P w = .ok .skip w'
theorem Gq {P:Program} {T:TI} (hT:E8 P T) {w0:World} {l:Fr} {B:Bx} {Γ:Gm} {α:Env} {γ:kR} {w:World} {o:Oper} {e:Eff} (hH:Holds w0 B Γ α γ w) (h:Di T l B o.op=some e):VN P l B α γ w o e:=by
 obtain ⟨dst,op,ty,pos,aft,gu⟩:=o
 dsimp only at h
 cases op<;>try (cases h;done)
 case move x =>
  simp only [Di] at h
  split at h
  · next s hs=>cases h;intro ρ hρ;unfold execOp;show Result.ok (Next.value (ρ x)) w=_;rw [hρ.dK (bT hs)]
  · cases h
 case assign x =>
  simp only [Di] at h
  split at h
  · next s hs=>cases h;intro ρ hρ;unfold execOp;show Result.ok (Next.value (ρ x)) w=_;rw [hρ.dK (bT hs)]
  · cases h
 case pick c x y =>
  simp only [Di] at h
  split at h
  · next hc =>
    split at h
    · next s hs =>
      cases h
      intro ρ hρ
      show (asBool (ρ c) >>= fun t=>pure (Next.value (if t then ρ x else ρ y))).run P w=_
      rw [hρ.dK (bT hc),hρ.dK (bT hs)];rfl
    · cases h
  · next hc =>
    split at h
    · next s hs =>
      cases h
      intro ρ hρ
      show (asBool (ρ c) >>= fun t=>pure (Next.value (if t then ρ x else ρ y))).run P w=_
      rw [hρ.dK (bT hc),hρ.dK (bT hs)];rfl
    · cases h
  · cases h
 case extract x i =>
  simp only [Di] at h
  split at h
  · next ls hl =>
    split at h
    · next s hs =>
      cases h
      refine fun ρ hρ=>dI _ w ?_
      rw [hρ.dK (bT hl)]
      rw [p8] at hs
      have e:(bZ α γ ls).toArray[i]?=some (den α γ s):=by rw [List.getElem?_toArray,jh,List.getElem?_map,hs];rfl
      simp [den,Instr.extract,e]
    · cases h
  · cases h
 case fieldAddr s x f =>
  simp only [Di] at h
  split at h
  · next b q hb =>
    split at h
    · next d hd =>
      cases h
      refine fun ρ hρ=>dI _ w ?_
      rw [hρ.dK (bT hb)]
      exact hT.off s f d hd (α b) q w
    · cases h
  · cases h
 case alloc t =>
  simp only [Di] at h
  split at h
  · next cs hz =>
    cases h
    obtain ⟨z,h1,h2,h3,h4⟩:=hT.zero t cs hz
    have h0:(zeroValue t).run P w = .ok z w:=by
     cases hq:P.info? t with
     | none=>simp [hq] at h1
     | some i=>simp [hq] at h1;simp [zeroValue,typeInfo,hq,h1]
    have hc:Cb (w.alloc (.cells z.cells t)) w.heap.size t (bZ α γ cs):=by
     have:=Cb.new w t z.cells.toList
     rw [h2];simpa using this
    refine ⟨w.alloc (.cells z.cells t),Ex.alloc w _,hc,h3 α γ,fun ρ hρ=>?_⟩
    show (Instr.alloc t true (.tuple #[]) >>= fun u=>pure (Next.value u)).run P w=_
    simp [Instr.alloc,Sem.run_bind,h0,newVar,newRow]
  · cases h
 case box t x =>
  simp only [Di] at h
  split at h
  · next s hs =>
    split at h
    · next cs hc =>
      split at h
      · next hf =>
        cases h
        have hcell:=EH (α:=α) hH.sc hc hf
        refine ⟨w.alloc (.cells (bZ α γ cs).toArray t),Ex.alloc w _,Cb.new w t _,lC hH.sc hf,fun ρ hρ=>?_⟩
        show (Instr.box t (ρ x) >>= fun u=>pure (Next.value u)).run P w=_
        rw [hρ.dK (bT hs)]
        simp [Instr.box,Sem.run_bind,newVar,newRow,hcell]
      · cases h
    · cases h
  · cases h
 case load t x =>
  simp only [Di] at h
  split at h
  · next b q hb =>
    split at h
    · next u cs hB =>
      obtain ⟨hC,hlo,hp⟩:=hH.box b u cs hB
      split at h
      · next n hn =>
        split at h
        · next hl =>
          cases h
          obtain ⟨h1,dd,h2,h3⟩:=hT.size t n true hn
          refine fun ρ hρ=>dI _ w ?_
          rw [hρ.dK (bT hb)]
          have hl':=Nat.eq_of_beq_eq_true hl
          have e:bZ α γ ((cs.drop q).take n)=((bZ α γ cs).drop q).take n:=by rw [zD,zF]
          have e2:(bZ α γ ((cs.drop q).take n)).length=n:=by rw [iD];exact hl'
          exact hC.load (part:=bZ α γ ((cs.drop q).take n)) (by rw [e2,e]) h2 h3 (by rw [e2];exact h1)
        · cases h
      · next n hn =>
        split at h
        · next s hs =>
          cases h
          obtain ⟨h1,dd,h2,h3⟩:=hT.size t n false hn
          refine fun ρ hρ=>dI _ w ?_
          rw [hρ.dK (bT hb)]
          refine sK h2 h3 (hC.at ?_)
          rw [p8] at hs
          rw [jh,List.getElem?_map,hs];rfl
        · cases h
      · cases h
    · cases h
  · cases h
 case store t x y =>
  simp only [Di] at h
  split at h
  · next b q hb =>
    split at h
    · next u cs hB =>
      obtain ⟨hC,hlo,hp⟩:=hH.box b u cs hB
      have fin:∀ (vs:List SV) (hq:q+vs.length≤cs.length) (hk:D9 vs=true),(∀ ρ,Cons ρ (gI α γ l)→(Instr.storeAt t (.pointer (some ⟨α b,q,none⟩)) (ρ y)).run P w = .ok () (w.setCells (α b) q (bZ α γ vs))) →
        VN P l B α γ w ⟨dst,.store t x y,ty,pos,aft,gu⟩ (.put b u (De cs q vs)):=fun vs hq hk hr=>by
       have hd:K6 (bZ α γ cs) q (bZ α γ vs)=bZ α γ (De cs q vs):=by rw [uT,Gn _ _ _ (by rw [iD,iD];exact hq)]
       have hX:=uu (N:=α b) (bZ α γ vs) q w
       have hC':=uo (bZ α γ vs) q hC
       rw [hd] at hC'
       refine ⟨_,cs,hB,hX,hC',by rw [uT];exact Df hp (lC hH.sc hk),fun ρ hρ=>?_⟩
       show (Instr.storeAt t (ρ x) (ρ y) >>= fun _=>pure Next.skip).run P w=_
       rw [hρ.dK (bT hb),Sem.run_bind,show den α γ (.p b q) = .pointer (some ⟨α b,q,none⟩) from rfl,hr ρ hρ];rfl
      split at h
      · next vs hs =>
        split at h
        · next n hn =>
          split at h
          · next hf =>
            cases h
            simp only [Bool.and_eq_true] at hf
            obtain ⟨h1,h2⟩:=hT.size t n true hn
            have hl:=Nat.eq_of_beq_eq_true hf.1
            have hq:=Nat.le_of_ble_eq_true hf.2.1
            refine fin vs hq hf.2.2 fun ρ hρ=>?_
            rw [hρ.dK (bT hs)]
            exact EI hC q _ (by rw [iD,iD];exact hq) t (by rw [iD,hl];exact h1) fun v hv=>(lS (lC hH.sc hf.2.2 v hv)).1
          · cases h
        · cases h
      · cases h
      · next s hns hnt hs =>
        split at h
        · next hn =>
          split at h
          · next hf =>
            cases h
            rw [Bool.and_eq_true] at hf
            obtain ⟨h1,h2⟩:=hT.size t 1 false hn
            have hq:=Nat.le_of_ble_eq_true hf.1
            have hpl:=zG (α:=α) hH.sc hf.2
            refine fin [s] hq (by show (Xv s&&true)=true;rw [hf.2];rfl) fun ρ hρ=>?_
            rw [hρ.dK (bT hs)]
            exact RA h1 (lS hpl).1 (lS hpl).2 (hC.at (List.getElem?_eq_getElem (by rw [iD];exact hq))) (hC.frozen q)
          · cases h
        · cases h
      · cases h
    · cases h
  · cases h
theorem Holds.sub {w0:World} {B B':Bx} {Γ Γ':Gm} {α:Env} {γ:kR} {w:World} (h:Holds w0 B Γ α γ w) (hB:∀ b x,jU B' b=some x→jU B b=some x) (hG:∀ g S,lW Γ' g=some S→lW Γ g=some S):Holds w0 B' Γ' α γ w where
 ex:=h.ex
 box b T cs hb:=h.box b T cs (hB _ _ hb)
 inj b b' h1 h2:=by
  obtain ⟨x,hx⟩:=h1
  obtain ⟨y,hy⟩:=h2
  exact h.inj b b' ⟨x,hB _ _ hx⟩ ⟨y,hB _ _ hy⟩
 sc:=h.sc
 fact g S hg:=S.grow (h.fact g S (hG g S hg)) (fun k ⟨b,⟨x,hx⟩,e⟩=>.inl ⟨b,⟨x,hB _ _ hx⟩,e⟩) fun k ⟨b,⟨x,hx⟩,e⟩=>(h.mE ⟨b,⟨x,hB _ _ hx⟩,e⟩).2.2
end Go.Proofs.YtgcieamfidoaoaaGreatDoor.Rf
/- Regions that draw their order: whichever order, once each operation is shown on what it leans on. -/
namespace Go.Proofs.YtgcieamfidoaoaaGreatDoor.Rf
open Go Go.RowKit Go.Proofs.YtgcieamfidoaoaaGreatDoor.Pl
set_option maxRecDepth 100000
section
variable {A:Type}
def wQ:List (Nat × A)→Nat→Option A
 | [],_=>none
 | (d,s)::l,t=>match Nat.beq d t with
  | true=>some s
  | false=>wQ l t
def At {X:Type}:List X→Nat→X→Prop
 | [],_,_=>False
 | y::ys,j,x=>(j=ys.length∧x=y)∨At ys j x
theorem MQ {X:Type}:∀ {xs:List X} {j:Nat} {x:X},At xs j x→j<xs.length
 | y::ys,j,x,h=>by
  rcases h with ⟨rfl,_⟩ | h
  · simp
  · have:=MQ h;simp;omega
theorem Xw {X:Type}:∀ {xs:List X} {j:Nat},j<xs.length→∃ x,At xs j x
 | y::ys,j,h=>by
  by_cases e:j=ys.length
  · exact ⟨y,.inl ⟨e,rfl⟩⟩
  · obtain ⟨x,hx⟩:=Xw (xs:=ys) (j:=j) (by simp at h;omega)
    exact ⟨x,.inr hx⟩
theorem Gr {X Y:Type} (f:X→Y):∀ {xs:List X} {j:Nat} {y:Y},At (xs.map f) j y↔∃ x,At xs j x∧y=f x
 | [],j,y=>⟨fun h=>h.elim,fun ⟨x,h,_⟩=>h.elim⟩
 | z::zs,j,y=>by
  constructor
  · rintro (⟨h1,h2⟩ | h)
    · exact ⟨z,.inl ⟨by simpa using h1,rfl⟩,h2⟩
    · obtain ⟨x,hx,e⟩:=(Gr f).1 h;exact ⟨x,.inr hx,e⟩
  · rintro ⟨x,h,rfl⟩
    rcases h with ⟨h1,rfl⟩ | h
    · exact .inl ⟨by simpa using h1,rfl⟩
    · exact .inr ((Gr f).2 ⟨x,h,rfl⟩)
theorem EJ {X:Type}:∀ (post:List X) {xs:List X} {j:Nat} {x:X},At xs j x→At (post++xs) j x
 | [],_,_,_,h=>h
 | _::post,_,_,_,h=>.inr (EJ post h)
def sel (M:Nat) (base:List (Nat × A)):List (Option (Nat × A))→List (Nat × A)
 | []=>base
 | some e::xs=>match tb M xs.length with
  | true=>e::sel M base xs
  | false=>sel M base xs
 | none::xs=>sel M base xs
def Dj (base:List (Nat × A)):List (Option (Nat × A))→List (Nat × A)
 | []=>base
 | some e::xs=>e::Dj base xs
 | none::xs=>Dj base xs
theorem yA {M:Nat} {base:List (Nat × A)}:∀ {xs:List (Option (Nat × A))},(∀ j,j<xs.length→tb M j=true)→sel M base xs=Dj base xs
 | [],_=>rfl
 | some e::xs,h=>by
  unfold sel Dj
  rw [h xs.length (by simp)]
  dsimp only
  rw [yA (xs:=xs) fun j hj=>h j (by simp;omega)]
 | none::xs,h=>by
  unfold sel Dj
  exact yA (xs:=xs) fun j hj=>h j (by simp;omega)
theorem wR {M t:Nat} {base:List (Nat × A)}:∀ {xs:List (Option (Nat × A))},(∀ j e,At xs j (some e)→e.1=t→tb M j=true)→wQ (sel M base xs) t=wQ (Dj base xs) t
 | [],_=>rfl
 | none::xs,h=>wR (xs:=xs) fun j e hj=>h j e (.inr hj)
 | some e::xs,h=>by
  have ih:=wR (base:=base) (xs:=xs) fun j e hj=>h j e (.inr hj)
  obtain ⟨d,s⟩:=e
  unfold sel Dj
  cases hb:tb M xs.length with
  | true=>simp only [wQ,ih]
  | false =>
   have hne:Nat.beq d t=false:=by
    cases hd:Nat.beq d t with
    | false=>rfl
    | true =>
     have:=h xs.length (d,s) (.inl ⟨rfl,rfl⟩) (Nat.eq_of_beq_eq_true hd)
     rw [hb] at this;cases this
   simp only [wQ,hne,ih]
theorem Dk {M t:Nat} {base:List (Nat × A)}:∀ (post:List (Option (Nat × A))) {xs:List (Option (Nat × A))},(∀ j e,At (post++xs) j (some e)→xs.length≤j→e.1=t→tb M j=false)→wQ (sel M base (post++xs)) t=wQ (sel M base xs) t
 | [],_,_=>rfl
 | none::post,xs,h=>Dk post fun j e hj=>h j e (.inr hj)
 | some e::post,xs,h=>by
  have ih:=Dk (M:=M) (t:=t) (base:=base) post (xs:=xs) fun j e hj=>h j e (.inr hj)
  obtain ⟨d,s⟩:=e
  have e1:sel M base (some (d,s)::(post++xs))=(match tb M (post++xs).length with | true=>(d,s)::sel M base (post++xs) | false=>sel M base (post++xs)):=rfl
  rw [List.cons_append,e1]
  cases hb:tb M (post++xs).length with
  | false=>exact ih
  | true =>
   have hne:Nat.beq d t=false:=by
    cases hd:Nat.beq d t with
    | false=>rfl
    | true =>
     have:=h (post++xs).length (d,s) (.inl ⟨rfl,rfl⟩) (by simp) (Nat.eq_of_beq_eq_true hd)
     rw [hb] at this;cases this
   simp only [wQ,hne,ih]
theorem MR {M M' t i:Nat} {base:List (Nat × A)} (hM:∀ j,tb M' j=(tb M j||decide (j=i))):∀ {xs:List (Option (Nat × A))} {x:Option (Nat × A)},At xs i x →
  (∀ s,x=some (t,s)→(∀ j e,At xs j (some e)→i<j→e.1=t→tb M j=false)→wQ (sel M' base xs) t=some s)∧((∀ s,x≠some (t,s))→wQ (sel M' base xs) t=wQ (sel M base xs) t)
 | y :: ys,x,h=>by
  have same:∀ ys:List (Option (Nat × A)),ys.length≤i→sel M' base ys=sel M base ys:=by
   intro ys
   induction ys with
   | nil=>intro _;rfl
   | cons y ys ih =>
    intro hl
    have hl':ys.length<i:=by simp at hl;omega
    cases y with
    | none=>exact ih (by omega)
    | some e =>
     unfold sel
     rw [hM ys.length,show decide (ys.length=i)=false from decide_eq_false (by omega),Bool.or_false,ih (by omega)]
  rcases h with ⟨hi,rfl⟩ | h
  · have hs:=same ys (by omega)
    have hb:tb M' ys.length=true:=by rw [hM,← hi,decide_eq_true rfl,Bool.or_true]
    refine ⟨fun s hx _=>?_,fun hn=>?_⟩
    · subst hx
      unfold sel
      rw [hb]
      simp only [wQ,Nat.beq_refl]
    · cases x with
      | none=>unfold sel;rw [hs]
      | some e =>
       obtain ⟨d,s⟩:=e
       have hd:Nat.beq d t=false:=by
        cases hd:Nat.beq d t with
        | false=>rfl
        | true=>exact absurd (by rw [Nat.eq_of_beq_eq_true hd]) (hn s)
       unfold sel
       rw [hb,hs]
       cases tb M ys.length<;>simp only [wQ,hd]
  · have ih:=MR (t:=t) (base:=base) hM h
    have hlt:=MQ h
    have hbit:tb M' ys.length=tb M ys.length:=by rw [hM,show decide (ys.length=i)=false from decide_eq_false (by omega),Bool.or_false]
    refine ⟨fun s hx ho=>?_,fun hn=>?_⟩
    · have h1:=ih.1 s hx fun j e hj=>ho j e (.inr hj)
      cases y with
      | none=>exact h1
      | some e =>
       obtain ⟨d,u⟩:=e
       unfold sel
       rw [hbit]
       cases hb:tb M ys.length with
       | false=>exact h1
       | true =>
        have hd:Nat.beq d t=false:=by
         cases hd:Nat.beq d t with
         | false=>rfl
         | true =>
          have:=ho ys.length (d,u) (.inl ⟨rfl,rfl⟩) hlt (Nat.eq_of_beq_eq_true hd)
          rw [hb] at this;cases this
        simp only [wQ,hd];exact h1
    · have h1:=ih.2 hn
      cases y with
      | none=>exact h1
      | some e =>
       obtain ⟨d,u⟩:=e
       unfold sel
       rw [hbit]
       cases tb M ys.length with
       | false=>exact h1
       | true=>simp only [wQ,h1]
end
theorem MS:∀ (l:Fr) (t:Nat),lk l t=wQ l t
 | [],_=>rfl
 | (d,s)::l,t=>by unfold lk wQ;rw [MS l t];cases Nat.beq d t<;>rfl
theorem Gs:∀ (l:Bx) (t:Nat),jU l t=wQ l t
 | [],_=>rfl
 | (d,s)::l,t=>by unfold jU wQ;rw [Gs l t];cases Nat.beq d t<;>rfl
theorem uw:∀ (l:Gm) (t:Nat),lW l t=wQ l t
 | [],_=>rfl
 | (d,s)::l,t=>by unfold lW wQ;rw [uw l t];cases Nat.beq d t<;>rfl
structure It where
 d:Option Nat
 out:SV
 rd:List Nat
 acc:List Nat
 gs:List Nat
 bx:Option (Nat × TypeId × List SV)
 nw:Option Nat
 gh:Option (Nat × Spec)
def It.kF:It→Option (Nat × SV)
 | ⟨some d,s,_,_,_,_,_,_⟩=>some (d,s)
 | ⟨none,_,_,_,_,_,_,_⟩=>none
abbrev Tr:=List It
def uX (l0:Fr) (tr:Tr):Fr:=Dj l0 (tr.map It.kF)
def SF (B0:Bx) (tr:Tr):Bx:=Dj B0 (tr.map It.bx)
def E5 (Γ0:Gm) (tr:Tr):Gm:=Dj Γ0 (tr.map It.gh)
def SG (M:Nat) (l0:Fr) (tr:Tr):Fr:=sel M l0 (tr.map It.kF)
def O5 (M:Nat) (B0:Bx) (tr:Tr):Bx:=sel M B0 (tr.map It.bx)
def MU (M:Nat) (Γ0:Gm) (tr:Tr):Gm:=sel M Γ0 (tr.map It.gh)
def kI (l:Fr):List Nat→Fr
 | []=>[]
 | t::ts=>match lk l t with
  | some s=>(t,s)::kI l ts
  | none=>kI l ts
def A8 (B:Bx):List Nat→Bx
 | []=>[]
 | t::ts=>match jU B t with
  | some s=>(t,s)::A8 B ts
  | none=>A8 B ts
def qj (Γ:Gm):List Nat→Gm
 | []=>[]
 | t::ts=>match lW Γ t with
  | some s=>(t,s)::qj Γ ts
  | none=>qj Γ ts
theorem Gt {l:Fr}:∀ {ts:List Nat} {t:Nat} {s:SV},lk (kI l ts) t=some s→t∈ts∧lk l t=some s
 | [],_,_,h=>by cases h
 | q::ts,t,s,h=>by
  unfold kI at h
  cases hq:lk l q with
  | none =>
   rw [hq] at h
   obtain ⟨h1,h2⟩:=Gt h
   exact ⟨List.mem_cons_of_mem _ h1,h2⟩
  | some u =>
   rw [hq] at h
   unfold lk at h
   cases hb:Nat.beq q t with
   | true =>
    rw [hb] at h
    obtain rfl:=Nat.eq_of_beq_eq_true hb
    obtain rfl:=Option.some.inj h
    exact ⟨List.mem_cons_self,hq⟩
   | false =>
    rw [hb] at h
    obtain ⟨h1,h2⟩:=Gt h
    exact ⟨List.mem_cons_of_mem _ h1,h2⟩
theorem Gv {B:Bx}:∀ {ts:List Nat} {t:Nat} {s:TypeId × List SV},jU (A8 B ts) t=some s→t∈ts∧jU B t=some s
 | [],_,_,h=>by cases h
 | q::ts,t,s,h=>by
  unfold A8 at h
  cases hq:jU B q with
  | none =>
   rw [hq] at h
   obtain ⟨h1,h2⟩:=Gv h
   exact ⟨List.mem_cons_of_mem _ h1,h2⟩
  | some u =>
   rw [hq] at h
   unfold jU at h
   cases hb:Nat.beq q t with
   | true =>
    rw [hb] at h
    obtain rfl:=Nat.eq_of_beq_eq_true hb
    obtain rfl:=Option.some.inj h
    exact ⟨List.mem_cons_self,hq⟩
   | false =>
    rw [hb] at h
    obtain ⟨h1,h2⟩:=Gv h
    exact ⟨List.mem_cons_of_mem _ h1,h2⟩
theorem Gw {Γ:Gm}:∀ {ts:List Nat} {t:Nat} {s:Spec},lW (qj Γ ts) t=some s→t∈ts∧lW Γ t=some s
 | [],_,_,h=>by cases h
 | q::ts,t,s,h=>by
  unfold qj at h
  cases hq:lW Γ q with
  | none =>
   rw [hq] at h
   obtain ⟨h1,h2⟩:=Gw h
   exact ⟨List.mem_cons_of_mem _ h1,h2⟩
  | some u =>
   rw [hq] at h
   unfold lW at h
   cases hb:Nat.beq q t with
   | true =>
    rw [hb] at h
    obtain rfl:=Nat.eq_of_beq_eq_true hb
    obtain rfl:=Option.some.inj h
    exact ⟨List.mem_cons_self,hq⟩
   | false =>
    rw [hb] at h
    obtain ⟨h1,h2⟩:=Gw h
    exact ⟨List.mem_cons_of_mem _ h1,h2⟩
def vo (l l':Fr):Prop:=∀ t s,lk l t=some s→lk l' t=some s
theorem vo.ev {l l':Fr} (h:vo l l') {x:Operand} {s:SV} (e:ev l x=some s):ev l' x=some s:=by
 cases x with
 | tmp t=>exact h t s e
 | _=>exact e
theorem vo.evs {l l':Fr} (h:vo l l'):∀ {xs:List Operand} {ss:List SV},evs l xs=some ss→evs l' xs=some ss
 | [],_,e=>e
 | x::xs,ss,e=>by
  unfold Rf.evs at e ⊢
  cases hx:Rf.ev l x with
  | none=>rw [hx] at e;cases e
  | some s =>
   rw [hx] at e
   cases hxs:Rf.evs l xs with
   | none=>rw [hxs] at e;cases e
   | some us =>
    rw [hxs] at e
    rw [h.ev hx,h.evs hxs]
    exact e
theorem vo.jT {L:List Oper} {l l':Fr} (h:vo l l') {g:Option (Nat × Bool)} {b:Bool} (e:jT L l g=some b):jT L l' g=some b:=by
 cases g with
 | none=>exact e
 | some q =>
  obtain ⟨j,c⟩:=q
  simp only [Rf.jT] at e ⊢
  cases ho:nth L j with
  | none=>rw [ho] at e;cases e
  | some oj =>
   rw [ho] at e
   dsimp only at e ⊢
   cases hd:oj.dst with
   | none=>rw [hd] at e;cases e
   | some d =>
    rw [hd] at e
    dsimp only at e ⊢
    cases hl:lk l d with
    | none=>rw [hl] at e;cases e
    | some s=>rw [hl] at e;rw [h d s hl];exact e
theorem vo.cons {l l':Fr} (h:vo l l') {α:Env} {γ:kR} {ρ:Operand→Value} (hρ:Cons ρ (gI α γ l')):Cons ρ (gI α γ l) where
 tmp t v hv:=by
  rw [fJ] at hv
  cases hl:lk l t with
  | none=>rw [hl] at hv;cases hv
  | some s =>
   rw [hl] at hv
   exact hρ.tmp t v (by rw [fJ,h t s hl];exact hv)
 const:=hρ.const
 global:=hρ.global
 func:=hρ.func
end Go.Proofs.YtgcieamfidoaoaaGreatDoor.Rf
/- Regions that draw their order: the law. -/
namespace Go.Proofs.YtgcieamfidoaoaaGreatDoor.Rf
open Go Go.RowKit Go.Proofs.YtgcieamfidoaoaaGreatDoor.Pl
set_option maxRecDepth 100000
def qh:List Nat→Nat→Nat
 | [],_=>0
 | x::_,0=>x
 | _::l,n+1=>qh l n
def upto (A:Nat) (lD:List Nat):Nat→Nat
 | 0=>A
 | j+1=>match tb A j with
  | true=>Nat.lor (upto A lD j) (qh lD j)
  | false=>upto A lD j
def EK (lD:List Nat):List Nat→List Nat→Nat→Bool
 | [],[],_=>true
 | A::ts,c::cs,i=>Nat.beq c (upto A lD i)&&(Nat.beq (Nat.shiftRight A i) 0&&EK lD ts cs (i+1))
 | _,_,_=>false
def Dwn (T:List Nat) (M:Nat):Prop:=∀ (j:Nat) (A:Nat),T[j]?=some A→M.testBit j=true→∀ k,A.testBit k=true→M.testBit k=true
theorem Dl {lD:List Nat}:∀ {ts:List Nat} {cs:List Nat} {i:Nat},EK lD ts cs i=true→∀ (j:Nat) (A:Nat),ts[j]?=some A→qh cs j=upto A lD (i+j)∧∀ k,A.testBit k=true→k<i+j
 | [],[],_,_,j,t,h=>by simp at h
 | [],_::_,_,h,_,_,_=>by cases h
 | _::_,[],_,h,_,_,_=>by cases h
 | t0::ts,c::cs,i,h,j,t,hj=>by
  unfold EK at h
  rw [Bool.and_eq_true,Bool.and_eq_true] at h
  cases j with
  | zero =>
   obtain rfl:t0=t:=by simpa using hj
   refine ⟨Nat.eq_of_beq_eq_true h.1,fun k hk=>?_⟩
   have h0:t0 >>> i=0:=Nat.eq_of_beq_eq_true h.2.1
   rcases Nat.lt_or_ge k i with hl | hl
   · omega
   · exfalso
     have:(t0 >>> i).testBit (k-i)=true:=by rw [Nat.testBit_shiftRight,show i+(k-i)=k by omega];exact hk
     rw [h0,Nat.zero_testBit] at this;cases this
  | succ j =>
   have:=Dl h.2.2 j t (by simpa using hj)
   rw [show i+(j+1)=i+1+j by omega]
   exact this
theorem Dm {A:Nat} {lD:List Nat} {k:Nat}:∀ {n:Nat},(upto A lD n).testBit k=true→A.testBit k=true∨∃ j,j<n∧A.testBit j=true∧(qh lD j).testBit k=true
 | 0,h=>.inl h
 | n + 1,h=>by
  unfold upto at h
  cases hb:tb A n with
  | true =>
   rw [hb] at h
   have h2:(Nat.lor (upto A lD n) (qh lD n)).testBit k=((upto A lD n).testBit k||(qh lD n).testBit k):=Nat.testBit_or _ _ _
   rw [h2,Bool.or_eq_true] at h
   rcases h with h | h
   · rcases Dm h with h | ⟨j,h1,h2⟩
     · exact .inl h
     · exact .inr ⟨j,by omega,h2⟩
   · exact .inr ⟨n,by omega,by rw [← jG];exact hb,h⟩
  | false =>
   rw [hb] at h
   rcases Dm h with h | ⟨j,h1,h2⟩
   · exact .inl h
   · exact .inr ⟨j,by omega,h2⟩
theorem MV {T:List Nat} {lD:List Nat} (hc:EK lD T lD 0=true) {M:Nat} (hM:Dwn T M):∀ (j:Nat) (A:Nat),T[j]?=some A→(∀ k,A.testBit k=true→M.testBit k=true)→∀ k,(qh lD j).testBit k=true→M.testBit k=true:=by
 intro j
 induction j using Nat.strongRecOn with
 | _ j ih =>
  intro t ht hA k hk
  have h1:=(Dl hc j t ht)
  rw [Nat.zero_add] at h1
  rw [h1.1] at hk
  rcases Dm hk with h | ⟨q,hq,h2,h3⟩
  · exact hA k h
  · have hqM:=hA q h2
    have hlt:q<T.length:=by
     have:=(List.getElem?_eq_some_iff.1 ht).1;omega
    obtain ⟨u,hu⟩:∃ u,T[q]?=some u:=⟨_,List.getElem?_eq_getElem hlt⟩
    exact ih q hq u hu (fun x hx=>hM q u hu hqM x hx) k h3
def oi (ord:Option (List Nat)) (i:Nat):Nat:=match ord with
 | none=>i
 | some l=>qh l i
def yB (lD:List Nat) (i j:Nat):Bool:=match Nat.blt j i with
 | true=>tb (qh lD i) j
 | false=>tb (qh lD j) i
def mem (x:Nat):List Nat→Bool
 | []=>false
 | y::l=>Nat.beq y x||mem x l
theorem mem_iff {x:Nat}:∀ {l:List Nat},x∈l→mem x l=true
 | y::l,h=>by
  unfold mem
  rcases List.mem_cons.1 h with rfl | h
  · rw [Nat.beq_refl];rfl
  · rw [mem_iff h,Bool.or_true]
def SH (k:Nat) (it:It):Bool:=Xr k it.out&&(match it.bx with
 | some (b,_,cs)=>!(Nat.beq b k)&&qK k cs
 | none=>true)
def Jn (g:Nat) (it:It):Bool:=Xu g it.out&&(match it.bx with
 | some (_,_,cs)=>wP g cs
 | none=>true)
def pair (lD:List Nat) (i:Nat) (it:It) (j:Nat) (jt:It):Bool :=
 (match jt.d with
  | some d=>!(mem d it.rd)||yB lD i j
  | none=>true) &&
 ((match jt.d,it.d with
  | some d,some e=>!(Nat.beq d e)||yB lD i j
  | _,_=>true) &&
 ((match jt.bx with
  | some (b,_)=>!(mem b it.acc)||yB lD i j
  | none=>true) &&
 ((match jt.bx,it.bx with
  | some (b,_),some (c,_)=>!(Nat.beq b c)||yB lD i j
  | _,_=>true) &&
 ((match it.nw with
  | some k=>SH k jt||(Nat.blt i j&&tb (qh lD j) i)
  | none=>true) &&
 ((match it.gh with
  | some (g,_)=>Jn g jt||(Nat.blt i j&&tb (qh lD j) i)
  | none=>true) &&
 ((match it.gh,jt.gh with
  | some (g,_),some (h,_)=>!(Nat.beq h g)
  | _,_=>true) &&
 (match jt.gh with
  | some (g,_)=>!(mem g it.gs)||yB lD i j
  | none=>true)))))))
def SI (lD:List Nat) (i:Nat) (it:It):Tr→Bool
 | []=>true
 | jt::tr=>(Nat.beq tr.length i||pair lD i it tr.length jt)&&SI lD i it tr
def MW (l0:Fr) (B0:Bx) (Γ0:Gm) (it:It):Bool :=
 (match it.nw with
  | some k=>Da k l0&&AZ k B0
  | none=>true) &&
 (match it.gh with
  | some (g,_)=>fresh g l0 B0 Γ0
  | none=>true)
def SK (lD:List Nat) (l0:Fr) (B0:Bx) (Γ0:Gm) (full:Tr):Tr→Bool
 | []=>true
 | it::tr=>SI lD tr.length it full&&(MW l0 B0 Γ0 it&&SK lD l0 B0 Γ0 full tr)
theorem Gx {lD:List Nat} {i:Nat} {it:It}:∀ {tr:Tr},SI lD i it tr=true→∀ j jt,At tr j jt→j≠i→pair lD i it j jt=true
 | x::tr,h,j,jt,hj,hne=>by
  unfold SI at h
  rw [Bool.and_eq_true,Bool.or_eq_true] at h
  rcases hj with ⟨rfl,rfl⟩ | hj
  · rcases h.1 with h1 | h1
    · exact absurd (Nat.eq_of_beq_eq_true h1) hne
    · exact h1
  · exact Gx h.2 j jt hj hne
theorem Bq {lD:List Nat} {l0:Fr} {B0:Bx} {Γ0:Gm} {full:Tr}:∀ {tr:Tr},SK lD l0 B0 Γ0 full tr=true→∀ i it,At tr i it→SI lD i it full=true∧MW l0 B0 Γ0 it=true
 | x::tr,h,i,it,hi=>by
  unfold SK at h
  rw [Bool.and_eq_true,Bool.and_eq_true] at h
  rcases hi with ⟨rfl,rfl⟩ | hi
  · exact ⟨h.1,h.2.1⟩
  · exact Bq h.2.2 i it hi
theorem uJ {P:Program} {f:FuncId} {xs:List Value} {w:World} {R:Ending→World→Prop} (h:Calls P f xs.toArray w R):Calls P f (([]:List Value)++(xs++([]:List Value))).toArray w R:=by
 rw [List.append_nil,List.nil_append];exact h
def FV (l:Fr) (y:Operand) (f:FuncId) (fs cap:List SV):Prop:=ev l y=some (.f f fs cap)∨fs=[]∧cap=[]∧ev l y=some (.v (.func (.func f) #[] #[]))
theorem FV.dK {l:Fr} {y:Operand} {f:FuncId} {fs cap:List SV} (h:FV l y f fs cap) (α:Env) (γ:kR):Pl.dK (gI α γ l) y=some (.func (.func f) (bZ α γ fs).toArray (bZ α γ cap).toArray):=by
 rcases h with h | ⟨rfl,rfl,h⟩
 · exact bT h
 · exact bT h
theorem Zx {w w':World} (h:Ex w w') {k:Nat} (hk:k<w.heap.size) (hn:Ei w k):Ei w' k:=by
 intro cs T m e c hc z
 rw [h.block k hk] at e
 exact hn cs T m e c hc z
theorem RS.new {S:RS} {w w':World} {F:Nat→Value} (h:S.R w' F) (hE:Ex w w') (X:Nat→Prop) (hX:∀ k,X k→k<w.heap.size∧Ei w k):S.S.P X w' F:=⟨h,fun k hk=>Zx hE (hX k hk).1 (hX k hk).2⟩
section
variable (P:Program) (L:List Oper) (w0:World) (l0:Fr) (B0:Bx) (Γ0:Gm)
inductive Gy (i:Nat) (tr:Tr):It→Prop
 | skip (o:Oper) (d:Nat) (rd:List Nat) (ho:nth L i=some o) (hd:o.dst=some d) (hg:jT L (kI (uX l0 tr) rd) o.guard=some false):Gy i tr ⟨some d,.v undef,rd,[],[],none,none,none⟩
 | pure (o:Oper) (d:Nat) (s:SV) (rd acc gs:List Nat) (ho:nth L i=some o) (hd:o.dst=some d) (hg:jT L (kI (uX l0 tr) rd) o.guard=some true)
  (hr:∀ α γ w,Holds w0 (A8 (SF B0 tr) acc) (qj (E5 Γ0 tr) gs) α γ w→∀ ρ,Cons ρ (gI α γ (kI (uX l0 tr) rd))→(execOp ρ o).run P w = .ok (.value (den α γ s)) w):Gy i tr ⟨some d,s,rd,acc,gs,none,none,none⟩
 | new (o:Oper) (d k:Nat) (t:TypeId) (cs:List SV) (rd acc gs:List Nat) (ho:nth L i=some o) (hd:o.dst=some d) (hg:jT L (kI (uX l0 tr) rd) o.guard=some true) (hk:qK k cs=true)
  (hr:∀ α γ w,Holds w0 (A8 (SF B0 tr) acc) (qj (E5 Γ0 tr) gs) α γ w→VN P (kI (uX l0 tr) rd) (A8 (SF B0 tr) acc) α γ w o (.new t cs)):Gy i tr ⟨some d,.p k 0,rd,acc,gs,some (k,t,cs),some k,none⟩
 | put (o:Oper) (b:Nat) (t:TypeId) (cs:List SV) (rd acc gs:List Nat) (s:SV) (ho:nth L i=some o) (hd:o.dst=none) (hg:jT L (kI (uX l0 tr) rd) o.guard=some true)
  (hr:∀ α γ w,Holds w0 (A8 (SF B0 tr) acc) (qj (E5 Γ0 tr) gs) α γ w→VN P (kI (uX l0 tr) rd) (A8 (SF B0 tr) acc) α γ w o (.put b t cs)):Gy i tr ⟨none,.v undef,rd,acc,gs,some (b,t,cs),none,none⟩
 | call (o:Oper) (d g:Nat) (S:Spec) (res:SV) (rd gs:List Nat) (f:FuncId) (y:Operand) (fs cap:List SV) (xs:List Operand) (ats:Array TypeId) (ss:List SV) (ho:nth L i=some o) (hop:o.op = .call { callee:=.value y,args:=xs.toArray,argTypes:=ats }) (hd:o.dst=some d) (hg:jT L (kI (uX l0 tr) rd) o.guard=some true)
  (hy:FV (kI (uX l0 tr) rd) y f fs cap) (hx:evs (kI (uX l0 tr) rd) xs=some ss) (hf:∀ (u:Array Value) X,(callFunc f u).run P X = .ok (.enter f u) X)
  (BM:∀ α γ w,Holds w0 [] (qj (E5 Γ0 tr) gs) α γ w→Calls P f (bZ α γ fs++(bZ α γ ss++bZ α γ cap)).toArray w (fun e w'=>∃ F,(∀ k,bG (F k)=true)∧e = .returned (den α (upd γ g F) res)∧(∀ X:Nat→Prop,(∀ k,X k→k<w.heap.size∧Ei w k)→S.P X w' F)∧Ex w w')):Gy i tr ⟨some d,res,rd,[],gs,none,none,some (g,S)⟩
 | eff (o:Oper) (d g:Nat) (S:Spec) (res:SV) (rd gs:List Nat) (ho:nth L i=some o) (hd:o.dst=some d) (hg:jT L (kI (uX l0 tr) rd) o.guard=some true)
  (BM:∀ α γ w,Holds w0 [] (qj (E5 Γ0 tr) gs) α γ w→∃ F w',(∀ k,bG (F k)=true)∧(∀ ρ,Cons ρ (gI α γ (kI (uX l0 tr) rd))→(execOp ρ o).run P w = .ok (.value (den α (upd γ g F) res)) w')∧(∀ X:Nat→Prop,(∀ k,X k→k<w.heap.size∧Ei w k)→S.P X w' F)∧Ex w w'):Gy i tr ⟨some d,res,rd,[],gs,none,none,some (g,S)⟩
def EL (ord:Option (List Nat)):Tr→Prop
 | []=>True
 | it::tr=>Gy P L w0 l0 B0 Γ0 (oi ord tr.length) tr it∧EL ord tr
end
theorem Jo {P:Program} {L:List Oper} {w0:World} {l0:Fr} {B0:Bx} {Γ0:Gm}:∀ {ord:Option (List Nat)} {full:Tr},EL P L w0 l0 B0 Γ0 ord full→∀ i it,At full i it→∃ post tr,full=post++it::tr∧tr.length=i∧Gy P L w0 l0 B0 Γ0 (oi ord i) tr it
 | ord,x::tr,h,i,it,hi=>by
  rcases hi with ⟨rfl,rfl⟩ | hi
  · exact ⟨[],tr,rfl,rfl,h.1⟩
  · obtain ⟨post,tr',e,h1,h2⟩:=Jo h.2 i it hi
    exact ⟨x::post,tr',by rw [e];rfl,h1,h2⟩
end Go.Proofs.YtgcieamfidoaoaaGreatDoor.Rf
/- Regions that draw their order: whichever order comes up, the same is known at the end. -/
namespace Go.Proofs.YtgcieamfidoaoaaGreatDoor.Rf
open Go Go.RowKit Go.Proofs.YtgcieamfidoaoaaGreatDoor.Pl
set_option maxRecDepth 100000
def rem (M:Nat):Nat→Nat
 | 0=>0
 | n+1=>rem M n+(if M.testBit n=true then 0 else 1)
theorem Jp {M:Nat}:∀ {N:Nat},rem M N=0→∀ j,j<N→M.testBit j=true
 | 0,_,j,h=>by omega
 | N+1,h,j,hj=>by
  unfold rem at h
  by_cases hb:M.testBit N=true
  · rcases Nat.lt_or_ge j N with hl | hl
    · exact Jp (N:=N) (by omega) j hl
    · rw [show j=N by omega];exact hb
  · rw [if_neg hb] at h;omega
theorem MX {M:Nat}:∀ {N:Nat},(∀ j,j<N→M.testBit j=true)→rem M N=0
 | 0,_=>rfl
 | N+1,h=>by unfold rem;rw [MX (N:=N) fun j hj=>h j (by omega),if_pos (h N (by omega))]
theorem uU (M i j:Nat):(Nat.lor M (Nat.shiftLeft 1 i)).testBit j=(M.testBit j||decide (j=i)):=by
 have h2:(Nat.lor M (Nat.shiftLeft 1 i)).testBit j=(M.testBit j||(Nat.shiftLeft 1 i).testBit j):=Nat.testBit_or _ _ _
 rw [h2,pX]
theorem MZ {M i:Nat} (hi:M.testBit i=false):∀ {N:Nat},(N≤i→rem (Nat.lor M (Nat.shiftLeft 1 i)) N=rem M N)∧(i<N→rem (Nat.lor M (Nat.shiftLeft 1 i)) N+1=rem M N)
 | 0=>⟨fun _=>rfl,fun h=>by omega⟩
 | N+1=>by
  obtain ⟨h1,h2⟩:=MZ hi (N:=N)
  unfold rem
  rw [uU]
  refine ⟨fun h=>?_,fun h=>?_⟩
  · rw [h1 (by omega),decide_eq_false (show ¬ N=i by omega),Bool.or_false]
  · rcases Nat.lt_or_ge i N with hl | hl
    · have:=h2 hl
      rw [decide_eq_false (show ¬ N=i by omega),Bool.or_false];omega
    · obtain rfl:N=i:=by omega
      rw [h1 (Nat.le_refl _),decide_eq_true rfl,Bool.or_true,if_pos rfl,hi,if_neg (by simp)]
theorem Holds.zH {w0:World} {B:Bx} {Γ Γ':Gm} {α:Env} {γ:kR} {w:World} (h:Holds w0 B Γ α γ w) (e:∀ g,lW Γ' g=lW Γ g):Holds w0 B Γ' α γ w:=⟨h.ex,h.box,h.inj,h.sc,fun g S hg=>h.fact g S (by rw [← e];exact hg)⟩
section
variable {A:Type}
theorem Gz {M g:Nat} {s:A} {base:List (Nat × A)}:∀ {xs:List (Option (Nat × A))},wQ (sel M base xs) g=some s→(∃ j,At xs j (some (g,s))∧tb M j=true)∨wQ base g=some s
 | [],h=>.inr h
 | none::xs,h=>by
  rcases Gz (xs:=xs) h with ⟨j,h1,h2⟩ | h
  · exact .inl ⟨j,.inr h1,h2⟩
  · exact .inr h
 | some (d,u)::xs,h=>by
  have key:wQ (sel M base xs) g=some s→(∃ j,At (some (d,u)::xs) j (some (g,s))∧tb M j=true)∨wQ base g=some s:=fun h=>by
   rcases Gz (xs:=xs) h with ⟨j,h1,h2⟩ | h
   · exact .inl ⟨j,.inr h1,h2⟩
   · exact .inr h
  simp only [sel] at h
  cases hb:tb M xs.length with
  | false=>rw [hb] at h;exact key h
  | true =>
   rw [hb] at h
   simp only [wQ] at h
   cases hd:Nat.beq d g with
   | true =>
    rw [hd] at h
    obtain rfl:=Nat.eq_of_beq_eq_true hd
    obtain rfl:=Option.some.inj h
    exact .inl ⟨xs.length,.inl ⟨rfl,rfl⟩,hb⟩
   | false=>rw [hd] at h;exact key h
end
theorem Dp {M k:Nat} {l0:Fr} (h0:Da k l0=true):∀ {xs:List (Option (Nat × SV))},(∀ j e,At xs j (some e)→tb M j=true→Xr k e.2=true)→Da k (sel M l0 xs)=true
 | [],_=>h0
 | none::xs,h=>Dp h0 (xs:=xs) fun j e hj=>h j e (.inr hj)
 | some (d,s)::xs,h=>by
  have ih:=Dp h0 (xs:=xs) fun j e hj=>h j e (.inr hj)
  simp only [sel]
  cases hb:tb M xs.length with
  | false=>exact ih
  | true =>
   show (Xr k s&&Da k _)=true
   rw [ih,h xs.length (d,s) (.inl ⟨rfl,rfl⟩) hb];rfl
theorem yC {M k:Nat} {l0:Fr} (h0:D8 k l0=true):∀ {xs:List (Option (Nat × SV))},(∀ j e,At xs j (some e)→tb M j=true→Xu k e.2=true)→D8 k (sel M l0 xs)=true
 | [],_=>h0
 | none::xs,h=>yC h0 (xs:=xs) fun j e hj=>h j e (.inr hj)
 | some (d,s)::xs,h=>by
  have ih:=yC h0 (xs:=xs) fun j e hj=>h j e (.inr hj)
  simp only [sel]
  cases hb:tb M xs.length with
  | false=>exact ih
  | true =>
   show (Xu k s&&D8 k _)=true
   rw [ih,h xs.length (d,s) (.inl ⟨rfl,rfl⟩) hb];rfl
theorem Dq {M k:Nat} {B0:Bx} (h0:AZ k B0=true):∀ {xs:List (Option (Nat × TypeId × List SV))},(∀ j e,At xs j (some e)→tb M j=true→(!(Nat.beq e.1 k))=true∧qK k e.2.2=true)→AZ k (sel M B0 xs)=true
 | [],_=>h0
 | none::xs,h=>Dq h0 (xs:=xs) fun j e hj=>h j e (.inr hj)
 | some (b,t,cs)::xs,h=>by
  have ih:=Dq h0 (xs:=xs) fun j e hj=>h j e (.inr hj)
  simp only [sel]
  cases hb:tb M xs.length with
  | false=>exact ih
  | true =>
   obtain ⟨h1,h2⟩:=h xs.length (b,t,cs) (.inl ⟨rfl,rfl⟩) hb
   show (!(Nat.beq b k)&&qK k cs&&AZ k _)=true
   rw [ih];dsimp only at h1 h2;rw [h1,h2];rfl
theorem yD {M k:Nat} {B0:Bx} (h0:Db k B0=true):∀ {xs:List (Option (Nat × TypeId × List SV))},(∀ j e,At xs j (some e)→tb M j=true→wP k e.2.2=true)→Db k (sel M B0 xs)=true
 | [],_=>h0
 | none::xs,h=>yD h0 (xs:=xs) fun j e hj=>h j e (.inr hj)
 | some (b,t,cs)::xs,h=>by
  have ih:=yD h0 (xs:=xs) fun j e hj=>h j e (.inr hj)
  simp only [sel]
  cases hb:tb M xs.length with
  | false=>exact ih
  | true =>
   show (wP k cs&&Db k _)=true
   rw [ih,h xs.length (b,t,cs) (.inl ⟨rfl,rfl⟩) hb];rfl
theorem pE {X:Type} {f:It→Option X} {full:Tr} {j:Nat} {e:X} (h:At (full.map f) j (some e)):∃ jt,At full j jt∧f jt=some e:=by
 obtain ⟨jt,h1,h2⟩:=(Gr f).1 h
 exact ⟨jt,h1,h2.symm⟩
theorem K7 {it:It} {e:Nat × SV} (h:it.kF=some e):it.d=some e.1∧it.out=e.2:=by
 obtain ⟨d,s,rd,acc,gs,bx,nw,gh⟩:=it
 cases d with
 | none=>cases h
 | some d=>obtain rfl:=Option.some.inj h;exact ⟨rfl,rfl⟩
theorem acM {it:It} {d:Nat} (h:it.d=some d):it.kF=some (d,it.out):=by
 obtain ⟨d',s,rd,acc,gs,bx,nw,gh⟩:=it
 dsimp only at h
 subst h;rfl
theorem EM {lD:List Nat} {i j:Nat} {it jt:It} (h:pair lD i it j jt=true) :
  (∀ d,jt.d=some d→d∈it.rd→yB lD i j=true)∧(∀ d,jt.d=some d→it.d=some d→yB lD i j=true)∧(∀ b x,jt.bx=some (b,x)→b∈it.acc→yB lD i j=true) ∧
  (∀ b x y,jt.bx=some (b,x)→it.bx=some (b,y)→yB lD i j=true)∧(∀ k,it.nw=some k→SH k jt=true∨(i<j∧tb (qh lD j) i=true)) ∧
  (∀ g S,it.gh=some (g,S)→Jn g jt=true∨(i<j∧tb (qh lD j) i=true))∧(∀ g S S',it.gh=some (g,S)→jt.gh=some (g,S')→False)∧(∀ g S,jt.gh=some (g,S)→g∈it.gs→yB lD i j=true):=by
 unfold pair at h
 simp only [Bool.and_eq_true] at h
 obtain ⟨h1,h2,h3,h4,h5,h6,h7,h8⟩:=h
 refine ⟨fun d hd hm=>?_,fun d hd he=>?_,fun b x hb hm=>?_,fun b x y hb hi=>?_,fun k hk=>?_,fun g S hg=>?_,fun g S S' hg hj=>?_,fun g S hg hm=>?_⟩
 · rw [hd] at h1;simpa [mem_iff hm] using h1
 · rw [hd,he] at h2;simpa [Nat.beq_refl] using h2
 · rw [hb] at h3;simpa [mem_iff hm] using h3
 · rw [hb,hi] at h4;simpa [Nat.beq_refl] using h4
 · rw [hk] at h5
   rw [Bool.or_eq_true,Bool.and_eq_true] at h5
   rcases h5 with h5 | ⟨h5,h6⟩
   · exact .inl h5
   · exact .inr ⟨Nat.lt_of_lt_of_le (Nat.lt_succ_self i) (Nat.le_of_ble_eq_true h5),h6⟩
 · rw [hg] at h6
   rw [Bool.or_eq_true,Bool.and_eq_true] at h6
   rcases h6 with h5 | ⟨h5,h6⟩
   · exact .inl h5
   · exact .inr ⟨Nat.lt_of_lt_of_le (Nat.lt_succ_self i) (Nat.le_of_ble_eq_true h5),h6⟩
 · rw [hg,hj] at h7
   dsimp only at h7
   rw [Nat.beq_refl] at h7;cases h7
 · rw [hg] at h8;simpa [mem_iff hm] using h8
def Al (ord:Option (List Nat)) (A:Nat):Nat→Nat
 | 0=>0
 | j+1=>match tb A (oi ord j) with
  | true=>Nat.lor (Al ord A j) (Nat.shiftLeft 1 j)
  | false=>Al ord A j
theorem zI {ord:Option (List Nat)} {A k:Nat}:∀ {n:Nat},(Al ord A n).testBit k=true↔k<n∧A.testBit (oi ord k)=true
 | 0=>by simp [Al]
 | n + 1=>by
  have ih:=zI (ord:=ord) (A:=A) (k:=k) (n:=n)
  unfold Al
  cases hb:tb A (oi ord n) with
  | true =>
   dsimp only
   rw [uU,Bool.or_eq_true,ih,decide_eq_true_eq]
   rw [jG] at hb
   constructor
   · rintro (⟨h1,h2⟩ | rfl)
     · exact ⟨by omega,h2⟩
     · exact ⟨by omega,hb⟩
   · rintro ⟨h1,h2⟩
     rcases Nat.lt_or_ge k n with h | h
     · exact .inl ⟨h,h2⟩
     · exact .inr (by omega)
  | false =>
   dsimp only
   rw [ih]
   rw [jG] at hb
   constructor
   · rintro ⟨h1,h2⟩;exact ⟨by omega,h2⟩
   · rintro ⟨h1,h2⟩
     refine ⟨?_,h2⟩
     rcases Nat.lt_or_ge k n with h | h
     · exact h
     · exfalso;rw [show k=n by omega,hb] at h2;cases h2
def Jq (T:List Tb) (i:Nat):Nat:=match T[i]? with
 | some t=>t.A
 | none=>0
def vU (T:List Tb) (ord:Option (List Nat)) (n:Nat):Nat→List Nat
 | 0=>[]
 | j+1=>vU T ord n j++[Al ord (Jq T (oi ord j)) n]
theorem uV {T:List Tb} {ord:Option (List Nat)} {n:Nat}:∀ j,(vU T ord n j).length=j
 | 0=>rfl
 | j+1=>by unfold vU;rw [List.length_append,uV j];rfl
theorem uy {T:List Tb} {ord:Option (List Nat)} {n i:Nat}:∀ {j:Nat},i<j→(vU T ord n j)[i]?=some (Al ord (Jq T (oi ord i)) n)
 | 0,h=>by omega
 | j+1,h=>by
  unfold vU
  rcases Nat.lt_or_ge i j with hl | hl
  · rw [List.getElem?_append_left (by rw [uV];exact hl)];exact uy hl
  · obtain rfl:i=j:=by omega
    rw [List.getElem?_append_right (by rw [uV];exact Nat.le_refl _),uV,Nat.sub_self];rfl
def allIn (l:List Nat):Nat→Bool
 | 0=>true
 | n+1=>mem n l&&allIn l n
def nodup:List Nat→Bool
 | []=>true
 | x::l=>!(mem x l)&&nodup l
def M0:List Nat→Nat→Bool
 | [],_=>true
 | x::l,n=>Nat.blt x n&&M0 l n
theorem Jr {n:Nat}:∀ {l:List Nat},M0 l n=true→∀ j,j<l.length→qh l j<n
 | x::l,h,j,hj=>by
  unfold M0 at h
  rw [Bool.and_eq_true] at h
  cases j with
  | zero=>exact Nat.lt_of_lt_of_le (Nat.lt_succ_self x) (Nat.le_of_ble_eq_true h.1)
  | succ j=>exact Jr h.2 j (by simp at hj;omega)
def Dr (ord:Option (List Nat)) (n:Nat):Bool:=match ord with
 | none=>true
 | some l=>Nat.beq l.length n&&(allIn l n&&(nodup l&&M0 l n))
def SL (n:Nat):List Tb→Bool
 | []=>true
 | t::ts=>Nat.beq (Nat.shiftRight t.A n) 0&&SL n ts
theorem M3 {n:Nat}:∀ {ts:List Tb},SL n ts=true→∀ (j:Nat) (t:Tb),ts[j]?=some t→∀ k,t.A.testBit k=true→k<n
 | [],_,j,t,h,_,_=>by simp at h
 | x :: ts,h,j,t,hj,k,hk=>by
  unfold SL at h
  rw [Bool.and_eq_true] at h
  cases j with
  | zero =>
   obtain rfl:x=t:=by simpa using hj
   have h0:x.A >>> n=0:=Nat.eq_of_beq_eq_true h.1
   rcases Nat.lt_or_ge k n with hl | hl
   · exact hl
   · exfalso
     have:(x.A >>> n).testBit (k-n)=true:=by rw [Nat.testBit_shiftRight,show n+(k-n)=k by omega];exact hk
     rw [h0,Nat.zero_testBit] at this;cases this
  | succ j=>exact M3 h.2 j t (by simpa using hj) k hk
theorem M4 {x:Nat}:∀ {l:List Nat},mem x l=true→∃ j,j<l.length∧qh l j=x
 | [],h=>by cases h
 | y::l,h=>by
  unfold mem at h
  rw [Bool.or_eq_true] at h
  rcases h with h | h
  · exact ⟨0,by simp,Nat.eq_of_beq_eq_true h⟩
  · obtain ⟨j,h1,h2⟩:=M4 h
    exact ⟨j+1,by simp;omega,h2⟩
theorem M5:∀ {l:List Nat} {j:Nat},j<l.length→qh l j∈l
 | y::l,0,_=>List.mem_cons_self
 | y::l,j+1,h=>List.mem_cons_of_mem _ (M5 (by simp at h;omega))
theorem EN:∀ {l:List Nat},nodup l=true→∀ i j,i<l.length→j<l.length→qh l i=qh l j→i=j
 | [],_,i,_,h,_,_=>by simp at h
 | x::l,h,i,j,hi,hj,e=>by
  unfold nodup at h
  rw [Bool.and_eq_true] at h
  have hx:∀ q,q<l.length→qh l q≠x:=fun q hq e=>by
   have:=mem_iff (M5 hq)
   rw [e] at this
   rw [this] at h;exact absurd h.1 (by simp)
  cases i with
  | zero=>cases j with
   | zero=>rfl
   | succ j=>exact absurd e.symm (hx j (by simp at hj;omega))
  | succ i=>cases j with
   | zero=>exact absurd e (hx i (by simp at hi;omega))
   | succ j=>rw [EN h.2 i j (by simp at hi;omega) (by simp at hj;omega) e]
theorem Js {l:List Nat}:∀ {n:Nat},allIn l n=true→∀ i,i<n→mem i l=true
 | n+1,h,i,hi=>by
  unfold allIn at h
  rw [Bool.and_eq_true] at h
  rcases Nat.lt_or_ge i n with hl | hl
  · exact Js h.2 i hl
  · rw [show i=n by omega];exact h.1
theorem O6 {ord:Option (List Nat)} {n:Nat} (h:Dr ord n=true):(∀ i,i<n→∃ t,t<n∧oi ord t=i)∧∀ s t,s<n→t<n→oi ord s=oi ord t→s=t:=by
 cases ord with
 | none=>exact ⟨fun i hi=>⟨i,hi,rfl⟩,fun s t _ _ e=>e⟩
 | some l =>
  unfold Dr at h
  dsimp only at h
  rw [Bool.and_eq_true,Bool.and_eq_true,Bool.and_eq_true] at h
  have hl:=Nat.eq_of_beq_eq_true h.1
  refine ⟨fun i hi=>?_,fun s t hs ht e=>EN h.2.2.1 s t (by omega) (by omega) e⟩
  obtain ⟨j,h1,h2⟩:=M4 (Js h.2.1 i hi)
  exact ⟨j,by omega,h2⟩
theorem O7 {P:Program} {L:List Oper} {w0:World} {lD:List Nat} {l0:Fr} {B0:Bx} {Γ0:Gm} {n:Nat} {Q:Exit→Act→World→Prop} {cs:List Code} {ds:List Deferred} {full:Tr} {ord:Option (List Nat)}
  (hlen:full.length=L.length) (Zy:CK n L=true) (hperm:Dr ord L.length=true) (hlow:SL L.length (tabs L.toArray)=true) (Zz:EK lD (vU (tabs L.toArray) ord L.length L.length) lD 0=true) (ZA:SK lD l0 B0 Γ0 full full=true) (hok:EL P L w0 l0 B0 Γ0 ord full)
  (hV:HV P Q n ds w0 cs (uX l0 full) (SF B0 full) (E5 Γ0 full)) :
  ∀ (f M Mo:Nat),rem M L.length=f→(∀ t,t<L.length→M.testBit t=Mo.testBit (oi ord t))→Dwn (vU (tabs L.toArray) ord L.length L.length) M→∀ α γ w,Holds w0 (O5 M B0 full) (MU M Γ0 full) α γ w→G P L (fun _=>True) (Ks P Q cs) n ds f Mo (gI α γ (SG M l0 full)) w:=by
 obtain ⟨ZB,hinj⟩:=O6 hperm
 have hd:=lm (n:=n) (L:=L) (by unfold CK at Zy;rw [Bool.and_eq_true] at Zy;exact Zy.2)
 intro f
 induction f with
 | zero =>
  intro M Mo VO hR hDn α γ w hH a listed ha hL _
  have hall:=Jp VO
  have hb:∀ {X:Type} (f:It→X) j,j<(full.map f).length→tb M j=true:=fun f j hj=>by rw [jG];exact hall j (by rw [List.length_map,hlen] at hj;exact hj)
  refine ⟨?_,?_⟩
  · cases hr:Region.ready .any L.toArray listed with
    | nil=>rfl
    | cons j l =>
     obtain ⟨o,ho,h1,_⟩:=(lQ (n:=0) hL).1 (show j∈Region.ready .any L.toArray listed by rw [hr];exact List.mem_cons_self)
     have hlt:j<L.length:=by have:=(Array.getElem?_eq_some_iff.1 ho).1;simpa using this
     obtain ⟨t,ht1,ht2⟩:=ZB j hlt
     have h2:=hR t ht1
     rw [ht2,h1,hall t ht1] at h2;cases h2
  · have e1:SG M l0 full=uX l0 full:=yA (hb _)
    have e2:O5 M B0 full=SF B0 full:=yA (hb _)
    have e3:MU M Γ0 full=E5 Γ0 full:=yA (hb _)
    rw [e1] at ha;rw [e2,e3] at hH
    exact hV α γ w hH a ha
 | succ f ih =>
  intro M Mo VO hR hDn α γ w hH a listed ha hL _
  refine ⟨fun h0=>?_,fun i0 hi=>?_⟩
  · -- something is ready
    exfalso
    have hex:∃ j,j<L.length∧M.testBit j=false:=by
     refine Classical.byContradiction fun hn=>?_
     have:=MX (M:=M) (N:=L.length) fun j hj=>by
      cases hb:M.testBit j with
      | true=>rfl
      | false=>exact absurd ⟨j,hj,hb⟩ hn
     omega
    obtain ⟨j,⟨hj,hb⟩,hmin⟩:=least hex
    have hoj:oi ord j<L.length:=by
     refine Classical.byContradiction fun hn=>?_
     cases ord with
     | none=>exact hn hj
     | some l =>
      have h9:=hperm
      unfold Dr at h9
      dsimp only at h9
      rw [Bool.and_eq_true,Bool.and_eq_true,Bool.and_eq_true] at h9
      exact hn (Jr h9.2.2.2 j (by rw [Nat.eq_of_beq_eq_true h9.1];exact hj))
    have hjo:L.toArray[oi ord j]?=some L[oi ord j]:=by simp [hoj]
    have ht:=yh hjo
    have hA:=(Dl Zz j _ (uy hj)).2
    have hin:oi ord j∈Region.ready .any L.toArray listed:=(lQ (n:=0) hL).2 ⟨_,hjo,by rw [← hR j hj];exact hb,I7 fun k hk=>by
     have hk1:=M3 hlow _ _ ht k hk
     obtain ⟨s,hs1,hs2⟩:=ZB k hk1
     have hk':=hA s (zI.2 ⟨hs1,by unfold Jq;rw [ht,hs2];exact hk⟩)
     rw [Nat.zero_add] at hk'
     rw [← hs2,← hR s hs1]
     cases hkb:M.testBit s with
     | true=>rfl
     | false=>have:=hmin s ⟨hs1,hkb⟩;omega⟩
    rw [h0] at hin;cases hin
  · obtain ⟨o,ho,PO,hAM⟩:=(lQ (n:=0) hL).1 hi
    have hoi:nth L i0=some o:=by rw [qd,← List.getElem?_toArray];exact ho
    have hlt:i0<L.toArray.size:=(Array.getElem?_eq_some_iff.1 ho).1
    have hi0:i0<L.length:=by simpa using hlt
    obtain ⟨i,hiL,vV⟩:=ZB i0 hi0
    have hbi:M.testBit i=false:=by rw [hR i hiL,vV];exact PO
    have hiT:=uy (T:=tabs L.toArray) (ord:=ord) (n:=L.length) hiL
    have hAi:∀ k,(Al ord (Jq (tabs L.toArray) (oi ord i)) L.length).testBit k=true→M.testBit k=true:=fun k hk=>by
     obtain ⟨h1,h2⟩:=zI.1 hk
     rw [hR k h1]
     refine I6 hAM _ ?_
     unfold Jq at h2
     rw [vV,yh ho] at h2
     exact h2
    have acN:=MV Zz hDn i _ hiT hAi
    obtain ⟨it,hit⟩:=Xw (xs:=full) (j:=i) (by omega)
    obtain ⟨post,tr,Xx,htr,hIt⟩:=Jo hok i it hit
    obtain ⟨hc1,hc2⟩:=Bq ZA i it hit
    -- another operation that is ordered with i: before it it has come up, behind it it has not
    have Ov:∀ j jt,At full j jt→j≠i→yB lD i j=true→(j<i→M.testBit j=true)∧(i<j→M.testBit j=false):=by
     intro j jt hj hne ho
     unfold yB at ho
     refine ⟨fun hl=>?_,fun hl=>?_⟩
     · have e:Nat.blt j i=true:=by unfold Nat.blt;exact Nat.ble_eq_true_of_le hl
       rw [e] at ho
       exact acN j (by rw [← jG];exact ho)
     · have e:Nat.blt j i=false:=by
        cases hb:Nat.blt j i with
        | false=>rfl
        | true=>have:=Nat.le_of_ble_eq_true hb;omega
       rw [e] at ho
       cases hb:M.testBit j with
       | false=>rfl
       | true =>
        have hjL:j<L.length:=by have:=MQ hj;omega
        have:=MV Zz hDn j _ (uy hjL) (fun k hk=>hDn j _ (uy hjL) hb k hk) i (by rw [← jG];exact ho)
        rw [hbi] at this;cases this
    have SN:∀ j jt,At full j jt→i<j→tb (qh lD j) i=true→M.testBit j=false:=by
     intro j jt hj hl ho
     refine (Ov j jt hj (by omega) ?_).2 hl
     unfold yB
     have e:Nat.blt j i=false:=by
      cases hb:Nat.blt j i with
      | false=>rfl
      | true=>have:=Nat.le_of_ble_eq_true hb;omega
     rw [e];exact ho
    have Ao:∀ j jt,At full j jt→j≠i→_:=fun j jt hj hne=>EM (Gx hc1 j jt hj hne)
    -- slots, boxes and facts that i leans on
    have agree:∀ {A:Type} (base:List (Nat × A)) (kf:It→Option (Nat × A)) (t:Nat),(∀ j jt e,At full j jt→kf jt=some e→e.1=t→j≠i→yB lD i j=true)→wQ (sel M base (full.map kf)) t=wQ (Dj base (tr.map kf)) t:=by
     intro A base kf t hh
     have e1:full.map kf=(post.map kf++[kf it])++tr.map kf:=by rw [Xx];simp
     rw [e1,Dk,wR]
     · intro j e hj he
       obtain ⟨jt,h1,h2⟩:=pE hj
       have hjl:=MQ h1
       have h3:At full j jt:=by rw [Xx];exact EJ post (.inr h1)
       rw [jG]
       exact (Ov j jt h3 (by omega) (hh j jt e h3 h2 he (by omega))).1 (by omega)
     · intro j e hj hl he
       rw [← e1] at hj
       obtain ⟨jt,h1,h2⟩:=pE hj
       rw [List.length_map,htr] at hl
       rw [jG]
       by_cases hji:j=i
       · rw [hji];exact hbi
       · exact (Ov j jt h1 hji (hh j jt e h1 h2 he hji)).2 (by omega)
    have qM:vo (kI (uX l0 tr) it.rd) (SG M l0 full):=by
     intro t s hs
     obtain ⟨h1,h2⟩:=Gt hs
     rw [MS] at h2 ⊢
     rw [← h2]
     refine agree l0 It.kF t fun j jt e hj hk he hne=>?_
     exact (Ao j jt hj hne).1 t (by rw [← he];exact (K7 hk).1) h1
    have Xy:∀ b x,jU (A8 (SF B0 tr) it.acc) b=some x→jU (O5 M B0 full) b=some x:=by
     intro t s hs
     obtain ⟨h1,h2⟩:=Gv hs
     rw [Gs] at h2 ⊢
     rw [← h2]
     refine agree B0 It.bx t fun j jt e hj hk he hne=>?_
     obtain ⟨b,x⟩:=e
     dsimp only at he
     subst he
     exact (Ao j jt hj hne).2.2.1 b x hk h1
    have ZC:∀ j j' jt jt' g S S',At full j jt→At full j' jt'→jt.gh=some (g,S)→jt'.gh=some (g,S')→j=j':=by
     intro j j' jt jt' g S S' h1 h2 e1 e2
     refine Classical.byContradiction fun hne=>?_
     exact (EM (Gx (Bq ZA j jt h1).1 j' jt' h2 (fun e=>hne e.symm))).2.2.2.2.2.2.1 g S S' e1 e2
    have hbase:∀ j jt g S,At full j jt→jt.gh=some (g,S)→fresh g l0 B0 Γ0=true:=by
     intro j jt g S h1 e1
     have:=(Bq ZA j jt h1).2
     unfold MW at this
     rw [Bool.and_eq_true,e1] at this
     exact this.2
    have Xz:∀ g S,lW (qj (E5 Γ0 tr) it.gs) g=some S→lW (MU M Γ0 full) g=some S:=by
     intro t s hs
     obtain ⟨h1,h2⟩:=Gw hs
     rw [uw] at h2 ⊢
     rw [← h2]
     refine agree Γ0 It.gh t fun j jt e hj hk he hne=>?_
     obtain ⟨b,x⟩:=e
     dsimp only at he
     subst he
     exact (Ao j jt hj hne).2.2.2.2.2.2.2 b x hk h1
    have hHr:Holds w0 (A8 (SF B0 tr) it.acc) (qj (E5 Γ0 tr) it.gs) α γ w:=hH.sub Xy Xz
    have acO:Holds w0 [] (qj (E5 Γ0 tr) it.gs) α γ w:=hH.sub (fun b x h=>by cases h) Xz
    -- behind i
    have hbit:∀ j,tb (Nat.lor M (Nat.shiftLeft 1 i)) j=(tb M j||decide (j=i)):=fun j=>by rw [jG,jG,uU]
    have ZE:∀ {A:Type} (base:List (Nat × A)) (kf:It→Option (Nat × A)) (t:Nat),
      (∀ s,kf it=some (t,s)→(∀ j jt e,At full j jt→kf jt=some e→e.1=t→i<j→M.testBit j=false)→wQ (sel (Nat.lor M (Nat.shiftLeft 1 i)) base (full.map kf)) t=some s) ∧
      ((∀ s,kf it≠some (t,s))→wQ (sel (Nat.lor M (Nat.shiftLeft 1 i)) base (full.map kf)) t=wQ (sel M base (full.map kf)) t):=by
     intro A base kf t
     obtain ⟨h1,h2⟩:=MR (t:=t) (base:=base) hbit ((Gr kf).2 ⟨it,hit,rfl⟩)
     refine ⟨fun s hs hl=>h1 s hs fun j e hj hij he=>?_,h2⟩
     obtain ⟨jt,h3,h4⟩:=pE hj
     rw [jG];exact hl j jt e h3 h4 he hij
    have EO:∀ t,lk (SG (Nat.lor M (Nat.shiftLeft 1 i)) l0 full) t=(match it.d with | some d=>(match Nat.beq d t with | true=>some it.out | false=>lk (SG M l0 full) t) | none=>lk (SG M l0 full) t):=by
     intro t
     rw [MS,MS]
     obtain ⟨h1,h2⟩:=ZE l0 It.kF t
     cases hdd:it.d with
     | none=>exact h2 fun s hs=>by have:=(K7 hs).1;rw [hdd] at this;cases this
     | some d =>
      dsimp only
      cases hdt:Nat.beq d t with
      | true =>
       obtain rfl:=Nat.eq_of_beq_eq_true hdt
       refine h1 it.out (acM hdd) fun j jt e hj hk he hl=>?_
       exact (Ov j jt hj (by omega) ((Ao j jt hj (by omega)).2.1 d (by rw [← he];exact (K7 hk).1) hdd)).2 hl
      | false =>
       refine h2 fun s hs=>?_
       have:=(K7 hs).1
       rw [hdd] at this
       rw [Option.some.inj this,Nat.beq_refl] at hdt;cases hdt
    have ZF:∀ t,jU (O5 (Nat.lor M (Nat.shiftLeft 1 i)) B0 full) t=(match it.bx with | some (b,x)=>(match Nat.beq b t with | true=>some x | false=>jU (O5 M B0 full) t) | none=>jU (O5 M B0 full) t):=by
     intro t
     rw [Gs,Gs]
     obtain ⟨h1,h2⟩:=ZE B0 It.bx t
     cases hdd:it.bx with
     | none=>exact h2 fun s hs=>by rw [hdd] at hs;cases hs
     | some bx =>
      obtain ⟨b,x⟩:=bx
      dsimp only
      cases hdt:Nat.beq b t with
      | true =>
       obtain rfl:=Nat.eq_of_beq_eq_true hdt
       refine h1 x hdd fun j jt e hj hk he hl=>?_
       obtain ⟨b',y⟩:=e
       dsimp only at he
       subst he
       exact (Ov j jt hj (by omega) ((Ao j jt hj (by omega)).2.2.2.1 b' y x hk hdd)).2 hl
      | false =>
       refine h2 fun s hs=>?_
       rw [hdd] at hs
       cases hs
       rw [Nat.beq_refl] at hdt;cases hdt
    have ghK:∀ t,lW (MU (Nat.lor M (Nat.shiftLeft 1 i)) Γ0 full) t=(match it.gh with | some (b,x)=>(match Nat.beq b t with | true=>some x | false=>lW (MU M Γ0 full) t) | none=>lW (MU M Γ0 full) t):=by
     intro t
     rw [uw,uw]
     obtain ⟨h1,h2⟩:=ZE Γ0 It.gh t
     cases hdd:it.gh with
     | none=>exact h2 fun s hs=>by rw [hdd] at hs;cases hs
     | some bx =>
      obtain ⟨b,x⟩:=bx
      dsimp only
      cases hdt:Nat.beq b t with
      | true =>
       obtain rfl:=Nat.eq_of_beq_eq_true hdt
       refine h1 x hdd fun j jt e hj hk he hl=>?_
       obtain ⟨b',y⟩:=e
       dsimp only at he
       subst he
       have:=ZC j i jt it b' y x hj hit hk hdd
       omega
      | false =>
       refine h2 fun s hs=>?_
       rw [hdd] at hs
       cases hs
       rw [Nat.beq_refl] at hdt;cases hdt
    have Br:it.bx=none→∀ t,jU (O5 (Nat.lor M (Nat.shiftLeft 1 i)) B0 full) t=jU (O5 M B0 full) t:=fun e t=>by rw [ZF,e]
    have GG:it.gh=none→∀ t,lW (MU (Nat.lor M (Nat.shiftLeft 1 i)) Γ0 full) t=lW (MU M Γ0 full) t:=fun e t=>by rw [ghK,e]
    have afw:Dwn (vU (tabs L.toArray) ord L.length L.length) (Nat.lor M (Nat.shiftLeft 1 i)):=by
     intro j t hj hb k hk
     rw [uU,Bool.or_eq_true] at hb ⊢
     rcases hb with hb | hb
     · exact .inl (hDn j t hj hb k hk)
     · have e:=of_decide_eq_true hb
       subst e
       rw [hiT] at hj
       obtain rfl:=Option.some.inj hj
       exact .inl (hAi k hk)
    have acP:rem (Nat.lor M (Nat.shiftLeft 1 i)) L.length=f:=by have:=(MZ hbi (N:=L.length)).2 hiL;omega
    have hR':∀ t,t<L.length→(Nat.lor M (Nat.shiftLeft 1 i)).testBit t=(Nat.lor Mo (Nat.shiftLeft 1 i0)).testBit (oi ord t):=fun t ht=>by
     rw [uU,uU,hR t ht]
     congr 1
     by_cases e:t=i
     · rw [e,vV,decide_eq_true rfl,decide_eq_true rfl]
     · rw [decide_eq_false e,decide_eq_false (fun e2=>e (hinj t i ht hiL (by rw [e2,vV])))]
    refine Bp (k:=false) (m:=0) (K:=fun l' w'=>∃ α' γ',Holds w0 (O5 (Nat.lor M (Nat.shiftLeft 1 i)) B0 full) (MU (Nat.lor M (Nat.shiftLeft 1 i)) Γ0 full) α' γ' w'∧∀ t v,Go.Proofs.YtgcieamfidoaoaaGreatDoor.Pl.look (gI α' γ' (SG (Nat.lor M (Nat.shiftLeft 1 i)) l0 full)) t=some v→Go.Proofs.YtgcieamfidoaoaaGreatDoor.Pl.look l' t=some v)
     (hd i0 o · hoi) hoi ha trivial ?_ (fun a l w ha hS ⟨α',γ',h1,h2⟩=>ih _ _ acP hR' afw α' γ' w h1 a _ (ha.less h2) (hL.put hlt) trivial)
    have Jt:∀ (l:List (Nat × Value)) (d:Nat) (v:Value) (t:Nat),Go.Proofs.YtgcieamfidoaoaaGreatDoor.Pl.look ((d,v)::l) t=(match Nat.beq d t with | true=>some v | false=>Go.Proofs.YtgcieamfidoaoaaGreatDoor.Pl.look l t):=fun _ _ _ _=>rfl
    cases hIt with
    | skip o' d rd ho' hd' hg =>
     obtain rfl:=Option.some.inj (hoi.symm.trans (by rw [← vV];exact ho'))
     refine jP hoi hd' (gy (qM.jT hg) α γ) ⟨α,γ,(hH.congr (Br rfl)).zH (GG rfl),fun t v hv=>?_⟩
     rw [fJ,EO] at hv
     rw [Jt,fJ]
     dsimp only at hv
     cases hb:Nat.beq d t with
     | true=>rw [hb] at hv;exact hv
     | false=>rw [hb] at hv;exact hv
    | pure o' d s rd acc gs ho' hd' hg hr =>
     obtain rfl:=Option.some.inj (hoi.symm.trans (by rw [← vV];exact ho'))
     refine kP hoi hd' (gy (qM.jT hg) α γ) (fun ρ hρ=>hr α γ w hHr ρ (qM.cons hρ)) trivial ⟨α,γ,(hH.congr (Br rfl)).zH (GG rfl),fun t v hv=>?_⟩
     rw [fJ,EO] at hv
     rw [Jt,fJ]
     dsimp only at hv
     cases hb:Nat.beq d t with
     | true=>rw [hb] at hv;exact hv
     | false=>rw [hb] at hv;exact hv
    | new o' d k t cs' rd acc gs ho' hd' hg hk hr =>
     obtain rfl:=Option.some.inj (hoi.symm.trans (by rw [← vV];exact ho'))
     obtain ⟨w',hE,hC,hp,hrun⟩:=hr α γ w hHr
     have hb1:Da k l0=true∧AZ k B0=true:=by
      unfold MW at hc2
      rw [Bool.and_eq_true] at hc2
      have:=hc2.1
      dsimp only at this
      rwa [Bool.and_eq_true] at this
     have Ju:∀ j jt,At full j jt→tb M j=true→SH k jt=true:=by
      intro j jt hj hb
      have hne:j≠i:=fun e=>by rw [e,jG,hbi] at hb;cases hb
      rcases (Ao j jt hj hne).2.2.2.2.1 k rfl with h | ⟨h1,h2⟩
      · exact h
      · rw [jG,SN j jt hj h1 h2] at hb;cases hb
     have hnF:Da k (SG M l0 full)=true:=Dp hb1.1 fun j e hj hb=>by
      obtain ⟨jt,h1,h2⟩:=pE hj
      have:=Ju j jt h1 hb
      unfold SH at this
      rw [Bool.and_eq_true,(K7 h2).2] at this
      exact this.1
     have hnB:AZ k (O5 M B0 full)=true:=Dq hb1.2 fun j e hj hb=>by
      obtain ⟨jt,h1,h2⟩:=pE hj
      have:=Ju j jt h1 hb
      obtain ⟨b,t',c'⟩:=e
      unfold SH at this
      rw [Bool.and_eq_true,h2] at this
      have:=this.2
      dsimp only at this
      rwa [Bool.and_eq_true] at this
     have DF:=hH.new k w.heap.size t cs' hnB hk hE rfl hC hp
     refine kP hoi hd' (gy (qM.jT hg) α γ) (fun ρ hρ=>hrun ρ (qM.cons hρ)) trivial ⟨upd α k w.heap.size,γ,(DF.congr fun b=>?_).zH (GG rfl),fun q v hv=>?_⟩
     · rw [ZF];rfl
     · rw [fJ,EO] at hv
       rw [Jt]
       dsimp only at hv
       cases hb:Nat.beq d q with
       | true =>
        rw [hb] at hv
        dsimp only at hv
        rw [← hv]
        show some _=some (Value.pointer (some ⟨upd α k w.heap.size k,0,none⟩))
        rw [upd_same]
       | false =>
        rw [hb] at hv
        dsimp only
        rw [← uS (N:=w.heap.size) _ hnF,fJ];exact hv
    | put o' b t cs' rd acc gs s ho' hd' hg hr =>
     obtain rfl:=Option.some.inj (hoi.symm.trans (by rw [← vV];exact ho'))
     obtain ⟨w',old,hold,hX,hC,hp,hrun⟩:=hr α γ w hHr
     have DF:=hH.put b t old cs' (Xy _ _ hold) hX hC hp
     refine RJ hoi hd' (gy (qM.jT hg) α γ) (fun ρ hρ=>hrun ρ (qM.cons hρ)) trivial ⟨α,γ,(DF.congr fun q=>?_).zH (GG rfl),fun q v hv=>?_⟩
     · rw [ZF];rfl
     · rw [fJ,EO] at hv
       rw [fJ];exact hv
    | call o' d g S res rd gs f' y' fs cap xs ats ss ho' hop hd' hg hy hx hf BM =>
     obtain rfl:=Option.some.inj (hoi.symm.trans (by rw [← vV];exact ho'))
     obtain ⟨hb1,hb2,hb3⟩:=mM (hbase i _ g S hit rfl)
     have Ju:∀ j jt,At full j jt→tb M j=true→Jn g jt=true:=by
      intro j jt hj hb
      have hne:j≠i:=fun e=>by rw [e,jG,hbi] at hb;cases hb
      rcases (Ao j jt hj hne).2.2.2.2.2.1 g S rfl with h | ⟨h1,h2⟩
      · exact h
      · rw [jG,SN j jt hj h1 h2] at hb;cases hb
     have hnF:D8 g (SG M l0 full)=true:=yC hb1 fun j e hj hb=>by
      obtain ⟨jt,h1,h2⟩:=pE hj
      have:=Ju j jt h1 hb
      unfold Jn at this
      rw [Bool.and_eq_true,(K7 h2).2] at this
      exact this.1
     have hnB:Db g (O5 M B0 full)=true:=yD hb2 fun j e hj hb=>by
      obtain ⟨jt,h1,h2⟩:=pE hj
      have:=Ju j jt h1 hb
      obtain ⟨b,t',c'⟩:=e
      unfold Jn at this
      rw [Bool.and_eq_true,h2] at this
      exact this.2
     have hnG:lW (MU M Γ0 full) g=none:=by
      cases e:lW (MU M Γ0 full) g with
      | none=>rfl
      | some S' =>
       exfalso
       rw [uw] at e
       rcases Gz e with ⟨j,h1,h2⟩ | h
       · obtain ⟨jt,h3,h4⟩:=pE h1
         have:=ZC j i jt _ g S' S h3 hit h4 rfl
         rw [this,jG,hbi] at h2;cases h2
       · rw [uw,h] at hb3;cases hb3
     refine gY hoi hop hd' (gy (qM.jT hg) α γ) (FV.dK (Or.imp qM.ev (fun h=>⟨h.1,h.2.1,qM.ev h.2.2⟩) hy) α γ) (xz (qM.evs hx)) hf (Calls.mono (BM α γ w acO) ?_)
     rintro e w' ⟨F,hF,rfl,hR,hE⟩
     have hH1:=hH.ext hE
     have DF:=hH1.add g S F hnB hF (hR _ fun k hk=>⟨(hH.mE hk).1,(hH.mE hk).2.2⟩) hnG
     refine ⟨_,rfl,trivial,α,upd γ g F,(DF.congr (Br rfl)).zH fun q=>?_,fun q v hv=>?_⟩
     · rw [ghK];rfl
     · rw [fJ,EO] at hv
       rw [Jt]
       dsimp only at hv
       cases hb:Nat.beq d q with
       | true=>rw [hb] at hv;exact hv
       | false =>
        rw [hb] at hv
        dsimp only
        rw [← mO (F:=F) _ hnF,fJ];exact hv
    | eff o' d g S res rd gs ho' hd' hg BM =>
     obtain rfl:=Option.some.inj (hoi.symm.trans (by rw [← vV];exact ho'))
     obtain ⟨hb1,hb2,hb3⟩:=mM (hbase i _ g S hit rfl)
     have Ju:∀ j jt,At full j jt→tb M j=true→Jn g jt=true:=by
      intro j jt hj hb
      have hne:j≠i:=fun e=>by rw [e,jG,hbi] at hb;cases hb
      rcases (Ao j jt hj hne).2.2.2.2.2.1 g S rfl with h | ⟨h1,h2⟩
      · exact h
      · rw [jG,SN j jt hj h1 h2] at hb;cases hb
     have hnF:D8 g (SG M l0 full)=true:=yC hb1 fun j e hj hb=>by
      obtain ⟨jt,h1,h2⟩:=pE hj
      have:=Ju j jt h1 hb
      unfold Jn at this
      rw [Bool.and_eq_true,(K7 h2).2] at this
      exact this.1
     have hnB:Db g (O5 M B0 full)=true:=yD hb2 fun j e hj hb=>by
      obtain ⟨jt,h1,h2⟩:=pE hj
      have:=Ju j jt h1 hb
      obtain ⟨b,t',c'⟩:=e
      unfold Jn at this
      rw [Bool.and_eq_true,h2] at this
      exact this.2
     have hnG:lW (MU M Γ0 full) g=none:=by
      cases e:lW (MU M Γ0 full) g with
      | none=>rfl
      | some S' =>
       exfalso
       rw [uw] at e
       rcases Gz e with ⟨j,h1,h2⟩ | h
       · obtain ⟨jt,h3,h4⟩:=pE h1
         have:=ZC j i jt _ g S' S h3 hit h4 rfl
         rw [this,jG,hbi] at h2;cases h2
       · rw [uw,h] at hb3;cases hb3
     obtain ⟨F,w',hF,hrun,hR,hE⟩:=BM α γ w acO
     have hH1:=hH.ext hE
     have DF:=hH1.add g S F hnB hF (hR _ fun k hk=>⟨(hH.mE hk).1,(hH.mE hk).2.2⟩) hnG
     refine kP hoi hd' (gy (qM.jT hg) α γ) (fun ρ hρ=>hrun ρ (qM.cons hρ)) trivial ⟨α,upd γ g F,(DF.congr (Br rfl)).zH fun q=>?_,fun q v hv=>?_⟩
     · rw [ghK];rfl
     · rw [fJ,EO] at hv
       rw [Jt]
       dsimp only at hv
       cases hb:Nat.beq d q with
       | true=>rw [hb] at hv;exact hv
       | false =>
        rw [hb] at hv
        dsimp only
        rw [← mO (F:=F) _ hnF,fJ];exact hv
end Go.Proofs.YtgcieamfidoaoaaGreatDoor.Rf
