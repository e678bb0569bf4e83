/- Base. -/
import Derived.Test.YtgcieamfidoaoaaGreatDoorGad
set_option linter.all false
set_option maxHeartbeats 8000000
set_option maxRecDepth 100000
namespace Go.Proofs.YtgcieamfidoaoaaGreatDoor
namespace Rf
open Go Go.RowKit Pl
def lJ (L:List Oper) (l:Fr):Option (Nat × Bool)→Option Bool
 | none=>some true
 | some (j,b)=>match nth L j with
  | none=>none
  | some oj=>match oj.dst with
   | none=>none
   | some d=>match lk l d with
    | some (.v (.bool c))=>some (c==b)
    | some (.v (.tuple _))=>some false
    | _=>none
theorem jc {L:List Oper} {l:Fr} {g:Option (Nat × Bool)} {b:Bool} (h:lJ L l g=some b) (α:Env) (γ:l7):gd L (iI α γ l) g=some b:=by
 unfold gd;cases g with
 | none=>exact h
 | some q =>
  obtain ⟨j,c⟩:=q;simp only [lJ] at h;dsimp only;cases ho:nth L j with
  | none=>rw [ho] at h;cases h
  | some oj =>
   rw [ho] at h;dsimp only at h ⊢;cases hd:oj.dst with
   | none=>rw [hd] at h;cases h
   | some d =>
    rw [hd] at h;dsimp only at h ⊢;rw [iC];cases hl:lk l d with
    | none=>rw [hl] at h;cases h
    | some s =>
     rw [hl] at h;cases s with
     | v x=>cases x<;>first | (cases h;done) | exact h
     | _=>cases h
abbrev qE:=List (Bool × Nat × Nat)
def GV (T:TI) (L:List Oper):qE→Fr→Bx→Nat→qE × Fr × Bx × Nat
 | (false,i,m)::r,l,B,k=>match nth L i with
  | none=>((false,i,m)::r,l,B,k)
  | some o=>match lJ L l o.guard with
   | none=>((false,i,m)::r,l,B,k)
   | some false=>match o.dst with
    | some d=>GV T L r ((d,.v undef)::l) B k
    | none=>((false,i,m)::r,l,B,k)
   | some true=>match Ti T l B k o.op with
    | none=>((false,i,m)::r,l,B,k)
    | some (some s,B',k')=>match o.dst with
     | some d=>GV T L r ((d,s)::l) B' k'
     | none=>((false,i,m)::r,l,B,k)
    | some (none,B',k')=>match o.dst with
     | none=>GV T L r l B' k'
     | some _=>((false,i,m)::r,l,B,k)
 | r,l,B,k=>(r,l,B,k)
section
variable {P:Program} {Q:Exit→Act→World→Prop} {n:Nat} {ds:List Deferred} {w0:World} {cs:List Code} {l:Fr} {B:Bx} {Γ:Gm}
def HV (P:Program) (Q:Exit→Act→World→Prop) (n:Nat) (ds:List Deferred) (w0:World) (cs:List Code) (l:Fr) (B:Bx) (Γ:Gm):Prop :=
 ∀ α γ w,Holds w0 B Γ α γ w→V P Q n ds cs (iI α γ l) w
def HA (P:Program) (Q:Exit→Act→World→Prop) (n:Nat) (ds:List Deferred) (w0:World) (cs:List Code) (L:List Oper) (r:qE) (l:Fr) (B:Bx) (Γ:Gm):Prop :=
 ∀ α γ w,Holds w0 B Γ α γ w→iP P L (fun _=>True) (V P Q n ds cs) r (iI α γ l) w
theorem KE {L:List Oper} (h:HV P Q n ds w0 cs l B Γ):HA P Q n ds w0 cs L [] l B Γ:=h
theorem tO (α:Env) (γ:l7) (d:Nat) (s:SV) (l:Fr):iI α γ ((d,s)::l)=(d,den α γ s)::iI α γ l:=rfl
theorem KF {T:TI} (hT:BX P T) {L:List Oper}:∀ (r:qE) {l:Fr} {B:Bx} {k:Nat},HA P Q n ds w0 cs L (GV T L r l B k).1 (GV T L r l B k).2.1 (GV T L r l B k).2.2.1 Γ→HA P Q n ds w0 cs L r l B Γ
 | [],l,B,k,h=>h
 | (true,i,m)::r,l,B,k,h=>h
 | (false,i,m)::r,l,B,k,h=>by
  unfold GV at h;split at h
  · exact h
  · next o ho =>
    split at h
    · exact h
    · next hg =>
      split at h
      · next d hd =>intro α γ w hH;exact Kb ho hd (jc hg α γ) (KF hT r h α γ w hH)
      · exact h
    · next hg =>
      split at h
      · exact h
      · next s B' k' hx =>
        split at h
        · next d hd =>intro α γ w hH;obtain ⟨α',w',hr,Eh,he⟩:=Xr hT hH hx;have h2:=KF hT r h α' γ w' Eh;rw [tO,he] at h2;exact l8 ho hd (jc hg α γ) hr trivial h2
        · exact h
      · next B' k' hx =>
        split at h
        · next hd =>intro α γ w hH;obtain ⟨α',w',hr,Eh,he⟩:=Xr hT hH hx;have h2:=KF hT r h α' γ w' Eh;rw [he] at h2;exact WL ho hd (jc hg α γ) hr trivial h2
        · exact h
theorem aF {T:TI} (hT:BX P T) {L:List Oper} {r r':qE} {l':Fr} {B':Bx} (k:Nat) {k':Nat} (e:GV T L r l B k=(r',l',B',k')) (h:HA P Q n ds w0 cs L r' l' B' Γ):HA P Q n ds w0 cs L r l B Γ :=
 KF hT (k:=k) r (by rw [e];exact h)
theorem Jh {id:Nat} {L:List Oper} (hk:uD n L=true) (h:HA P Q n ds w0 cs L (SC 0 L) l B Γ):HV P Q n ds w0 (.region id L.toArray false::cs) l B Γ:=fun α γ w hH=>ed hk (h α γ w hH)
theorem dG {x y:Code} (h:HV P Q n ds w0 (x::y::cs) l B Γ):HV P Q n ds w0 (.seq x y::cs) l B Γ:=fun α γ w hH=>bu (h α γ w hH)
theorem aaj (h:HV P Q n ds w0 cs l B Γ):HV P Q n ds w0 (.skip::cs) l B Γ:=fun α γ w hH=>jP (h α γ w hH)
theorem aak {c:Operand} {x y:Code} (hc:ev l c=some (.v (.bool true))) (h:HV P Q n ds w0 (x::cs) l B Γ):HV P Q n ds w0 (.cond c x y::cs) l B Γ:=fun α γ w hH=>lI (dJ hc) (h α γ w hH)
theorem Xu {c:Operand} {x y:Code} (hc:ev l c=some (.v (.bool false))) (h:HV P Q n ds w0 (y::cs) l B Γ):HV P Q n ds w0 (.cond c x y::cs) l B Γ:=fun α γ w hH=>iR (dJ hc) (h α γ w hH)
theorem bN {id:Nat} {b:Code} (h:HV P (Exit.inBlock id (Ks P Q cs)) n ds w0 [b] l B Γ):HV P Q n ds w0 (.block id b::cs) l B Γ:=fun α γ w hH=>lK (h α γ w hH)
theorem dL {id:Nat} (h:HV P Q n ds w0 cs l B Γ):HV P (Exit.inBlock id (Ks P Q cs)) n ds w0 [] l B Γ:=fun α γ w hH=>jQ (h α γ w hH)
theorem oV {id:Nat} {cs':List Code} {N:Act→World→Prop} (h:HV P Q n ds w0 cs l B Γ):HV P (Exit.then N (Ks P (Exit.inBlock id (Ks P Q cs)) [])) n ds w0 (.exit id::cs') l B Γ:=fun α γ w hH=>xG (h α γ w hH)
theorem Ol {L:List Oper} {r:qE} {i m d:Nat} {o:Oper} {x y:Operand} {op:BinOp} {tx ty:TypeId} {u u' v:Value} (hr:∀ X,Bn P op tx x y u u' X = .ok v X) (ho:nth L i=some o) (hop:o.op = .binOp op tx x y ty) (hd:o.dst=some d) (hg:lJ L l o.guard=some true) (hx:ev l x=some (.v u)) (hy:ev l y=some (.v u')) (h:HA P Q n ds w0 cs L r ((d,.v v)::l) B Γ):HA P Q n ds w0 cs L ((false,i,m)::r) l B Γ:=fun α γ w hH=>ZO hr trivial ho hop hd (jc hg α γ) (dJ hx) (dJ hy) (h α γ w hH)
theorem uS {L:List Oper} {r:qE} {i m d:Nat} {o:Oper} (s:SV) (ho:nth L i=some o) (hd:o.dst=some d) (hg:lJ L l o.guard=some true) (hx:∀ α γ w,Holds w0 B Γ α γ w→∀ ρ,Cons ρ (iI α γ l)→(execOp ρ o).run P w = .ok (.value (den α γ s)) w) (h:HA P Q n ds w0 cs L r ((d,s)::l) B Γ):HA P Q n ds w0 cs L ((false,i,m)::r) l B Γ :=
 fun α γ w hH=>l8 ho hd (jc hg α γ) (hx α γ w hH) trivial (h α γ w hH)
theorem gI {L:List Oper} {r:qE} {i m d:Nat} {o:Oper} (s:SV) (ho:nth L i=some o) (hd:o.dst=some d) (hg:lJ L l o.guard=some true) (hk:∀ α γ,known (iI α γ l) o.op=true) (he:∀ α γ X,(execOp (LC (iI α γ l)) o).run P X = .ok (.value (den α γ s)) X) (h:HA P Q n ds w0 cs L r ((d,s)::l) B Γ):HA P Q n ds w0 cs L ((false,i,m)::r) l B Γ :=
 uS s ho hd hg (fun α γ w _ ρ hρ=>by rw [ku hρ (hk α γ)];exact he α γ w) h
structure RS where
 R:World→(Nat→Value)→Prop
 keep:∀ {w w':World} {f:Nat→Value},R w f→w.heap.size≤w'.heap.size→(∀ k,k<w.heap.size→w'.heap[k]?=w.heap[k]?∨IE w k)→R w' f
def RS.S (r:RS):Spec where
 P X w f:=r.R w f∧∀ k,X k→IE w k
 keep:=fun {X w w' f} ⟨h1,_⟩ hs hk hn hn'=>⟨r.keep h1 hs fun k hk'=>by
  by_cases hX:X k
  · exact .inr (hn k hX)
  · exact .inl (hk k hk' hX),hn'⟩
 grow:=fun ⟨h1,_⟩ _ hn=>⟨h1,hn⟩
theorem Holds.r {α:Env} {γ:l7} {w:World} (h:Holds w0 B Γ α γ w) (g:Nat) {S:RS} (e:lZ Γ g=some S.S):S.R w (γ g):=(h.fact g _ e).1
theorem Holds.noU {α:Env} {γ:l7} {w:World} (h:Holds w0 B Γ α γ w):∀ k,own B α k→IE w k:=fun k hk=>(h.oq hk).2.2
def fresh (g:Nat) (l:Fr) (B:Bx) (Γ:Gm):Bool:=Io g l&&(GN g B&&(match lZ Γ g with
 | none=>true
 | some _=>false))
theorem oC {g:Nat} (h:fresh g l B Γ=true):Io g l=true∧GN g B=true∧lZ Γ g=none:=by unfold fresh at h;grind
theorem aal {X:Type} {L:List Oper} {r:qE} {i m d:Nat} {o:Oper} {f:FuncId} {xs:List Operand} {ats:Array TypeId} {ss:List SV} (g:Nat) (S:X→RS) (res:X→SV) (p:X→Prop) (ho:nth L i=some o) (hop:o.op = .call { callee:=.value (.func f),args:=xs.toArray,argTypes:=ats }) (hd:o.dst=some d) (hg:lJ L l o.guard=some true) (hx:evs l xs=some ss) (hfr:fresh g l B Γ=true) (hf:∀ (u:Array Value) X,(callFunc f u).run P X = .ok (.enter f u) X) (DY:∀ α γ w,Holds w0 B Γ α γ w→Calls P f (dU α γ ss).toArray w (fun e w'=>∃ x F,(∀ k,bU (F k)=true)∧e = .returned (den α (upd γ g F) (res x))∧(S x).R w' F∧p x∧aS w w')) (h:∀ x,p x→HA P Q n ds w0 cs L r ((d,res x)::l) B ((g,(S x).S)::Γ)):HA P Q n ds w0 cs L ((false,i,m)::r) l B Γ:=fun α γ w hH=>by obtain ⟨h1,h2,h3⟩:=oC hfr;refine dQ ho hop hd (jc hg α γ) (Ae hx) hf (Calls.mono (DY α γ w hH) ?_);rintro e w' ⟨x,F,hF,rfl,hR,hp,hE⟩;have Eh:=hH.ext hE;have hA:=h x hp α (upd γ g F) w' (Eh.add g (S x).S F h2 hF ⟨hR,Eh.noU⟩ h3);rw [tO,oD l h1] at hA;exact ⟨_,rfl,trivial,hA⟩
def adq:Nat→List SV→Fr
 | _,[]=>[]
 | i,s::ss=>(i,s)::adq (i+1) ss
theorem M5 (α:Env) (γ:l7):∀ (ss:List SV) (i:Nat),iI α γ (adq i ss)=SE i (dU α γ ss)
 | [],_=>rfl
 | s::ss,i=>by show (_,_)::_=(_,_)::_;rw [M5 α γ ss (i+1)]
def mkγ (vs:List (List Value)):l7:=fun g k=>(uK ((uK vs g).getD []) k).getD (.bool false)
def Xv:List (List Value)→Bool
 | []=>true
 | x::l=>x.all bU&&Xv l
theorem Tj:∀ {vs:List (List Value)},Xv vs=true→∀ g k,bU (mkγ vs g k)=true:=by
 intro vs h g k;unfold mkγ
 have key:∀ (vs:List (List Value)) (g:Nat),Xv vs=true→∀ x∈(uK vs g).getD [],bU x=true:=by
  intro vs;induction vs with
  | nil=>intro g _ x hx;simp [uK] at hx
  | cons y vs ih =>
   intro g h x hx;have h1:(y.all bU&&Xv vs)=true:=h;rw [Bool.and_eq_true,List.all_eq_true] at h1;cases g with
   | zero=>exact h1.1 x (by simpa [uK] using hx)
   | succ g=>exact ih g h1.2 x (by simpa [uK] using hx)
 cases hn:uK ((uK vs g).getD []) k with
 | none=>rfl
 | some x =>rw [sQ] at hn;grind
def Fcs (X:Nat→Prop) (w:World) (γ:l7):Gm→Prop
 | []=>True
 | (g,S)::l=>S.P X w (γ g)∧Fcs X w γ l
theorem Xw {X:Nat→Prop} {w:World} {γ:l7}:∀ {Γ:Gm},Fcs X w γ Γ→∀ g S,lZ Γ g=some S→S.P X w (γ g)
 | [],_,_,_,h=>by cases h
 | (g',S')::l,hF,g,S,h=>by
  unfold lZ at h;cases hb:Nat.beq g' g with
  | true =>rw [hb] at h;obtain rfl:=Nat.eq_of_beq_eq_true hb;cases h;exact hF.1
  | false=>rw [hb] at h;exact Xw hF.2 g S h
theorem RS.in {S:RS} {w:World} {f:Nat→Value} {α:Env} (h:S.R w f):S.S.P (own [] α) w f:=⟨h,fun k ⟨_,⟨_,hx⟩,_⟩=>by cases hx⟩
theorem aC {f:FuncId} {fn:Func} {c:Code} {R:Ending→World→Prop} {w:World} (ss:List SV) (vs:List (List Value)) (Γ:Gm) (hf:P.funcs[f]?=some fn) (hb:fn.body=some c) (hn:Nat.beq fn.ntmps n=true) (hle:Nat.ble ss.length n=true) (hp:Xv vs=true) (hF:Fcs (own [] (fun _=>0)) w (mkγ vs) Γ) (h:HV P (bodyPost P fn R) n [] w [c] (adq 0 ss) [] Γ):Calls P f (dU (fun _=>0) (mkγ vs) ss).toArray w R:=by refine d9 hf hb hn (by rw [jh];exact hle) ?_;rw [← M5];exact h _ _ w ⟨aS.refl w,fun b T cs hb=>(by cases hb),fun b b' h1=>(by obtain ⟨x,hx⟩:=h1;cases hx),Tj hp,Xw hF⟩
def aam (T:TI) (l:Fr) (B:Bx):ResultVar→Option SV
 | .tmp t=>lk l t
 | .cell a t=>match lk l a with
  | some (.p b 0)=>match kP B b with
   | some (_,cs)=>match T.size t with
    | some (n,true)=>match Nat.beq cs.length n with
     | true=>some (.a cs)
     | false=>none
    | some (_,false)=>uK cs 0
    | none=>none
   | none=>none
  | _=>none
def Ph (T:TI) (l:Fr) (B:Bx):List ResultVar→Option (List SV)
 | []=>some []
 | x::xs=>match aam T l B x with
  | none=>none
  | some s=>match Ph T l B xs with
   | none=>none
   | some ss=>some (s::ss)
def Xx (tmps:Array Value):ResultVar→Sem Value
 | .tmp t=>pure (tmps.getD t undef)
 | .cell b t=>do loadVar t (← asAddr (tmps.getD b undef))
theorem Xy {T:TI} (hT:BX P T) {α:Env} {γ:l7} {w:World} (hH:Holds w0 B Γ α γ w) {a:Act} (ha:Ag n ds a (iI α γ l)) {x:ResultVar} {s:SV} (h:aam T l B x=some s) :(Xx a.tmps x).run P w = .ok (den α γ s) w:=by
 cases x with
 | tmp t =>
  have e:a.tmps.getD t undef=den α γ s:=by rw [Array.getD_eq_getD_getElem?,ha.look t (den α γ s) (by rw [iC,show lk l t=some s from h];rfl)];rfl
  show (pure (a.tmps.getD t undef):Sem Value).run P w=_;rw [e];rfl
 | cell b t =>
  simp only [aam] at h;split at h
  · next q hq =>
    have e:a.tmps.getD b undef = .pointer (some ⟨α q,0,none⟩):=(by rw [Array.getD_eq_getD_getElem?,ha.look b (den α γ (.p q 0)) (by rw [iC,hq];rfl)];rfl);split at h
    · next u cs hB =>
      obtain ⟨hC,_,_⟩:=hH.box q u cs hB;have ld:∀ (v:Value),(Instr.loadAt t (.pointer (some ⟨α q,0,none⟩))).run P w = .ok v w→(Xx a.tmps (.cell b t)).run P w = .ok v w:=fun v hv=>by show (do loadVar t (← asAddr (a.tmps.getD b undef)):Sem Value).run P w=_;rw [e];simpa [Instr.loadAt,Instr.sureAddr,asAddr] using hv
      split at h
      · next m hm =>
        split at h
        · next hl =>obtain rfl:=Option.some.inj h;obtain ⟨h1,dd,h2,h3⟩:=hT.size t m true hm;have hl':=Nat.eq_of_beq_eq_true hl;exact ld _ (hC.load (o:=0) (part:=dU α γ cs) (by rw [List.drop_zero,List.take_length]) h2 h3 (by rw [jh,hl'];exact h1))
        · cases h
      · next m hm =>obtain ⟨h1,dd,h2,h3⟩:=hT.size t m false hm;refine ld _ (wG h2 h3 (hC.at ?_));rw [sQ] at h;rw [j6,List.getElem?_map,h];rfl
      · cases h
    · cases h
  · cases h
theorem M6 {T:TI} (hT:BX P T) {α:Env} {γ:l7} {w:World} (hH:Holds w0 B Γ α γ w) {a:Act} (ha:Ag n ds a (iI α γ l)):∀ {xs:List ResultVar} {ss:List SV},Ph T l B xs=some ss →
  (xs.mapM (Xx a.tmps)).run P w = .ok (dU α γ ss) w
 | [],ss,h=>by obtain rfl:=Option.some.inj h;rfl
 | x::xs,ss,h=>by
  unfold Ph at h;cases hx:aam T l B x with
  | none=>rw [hx] at h;cases h
  | some s =>
   rw [hx] at h;cases hxs:Ph T l B xs with
   | none=>rw [hxs] at h;cases h
   | some us =>rw [hxs] at h;obtain rfl:=Option.some.inj h;rw [List.mapM_cons,Sem.run_bind,Xy hT hH ha hx];simp only [Result.andThen_ok,Sem.run_bind,M6 hT hH ha hxs];rfl
def tup:List SV→SV
 | [s]=>s
 | l=>.t l
theorem gJ {T:TI} (hT:BX P T) {fn:Func} {R:Ending→World→Prop} {xs:List ResultVar} {ss:List SV} (hQ:∀ a w,bodyPost P fn R .ret a w→Q .ret a w) (hr:fn.results=xs.toArray) (hs:Ph T l B xs=some ss) (h:∀ α γ w,Holds w0 B Γ α γ w→R (.returned (den α γ (tup ss))) w):HV P Q n [] w0 (.ret::cs) l B Γ:=fun α γ w hH=>DD fun a ha=>hQ a w (by
 refine ⟨ha.defers,den α γ (tup ss),?_,h α γ w hH⟩;have h1:=M6 hT hH ha hs;have h0:results fn a.tmps=(fn.results.mapM (Xx a.tmps) >>= fun vs=>pure (if h:vs.size=1 then vs[0] else .tuple vs)):=rfl;rw [h0,hr];have h2:((xs.toArray).mapM (Xx a.tmps)).run P w = .ok (dU α γ ss).toArray w:=by rw [List.mapM_toArray,Sem.run_map,h1];rfl
 rw [Sem.run_bind,h2]
 have hd:∀ l:List Value,(if h:l.toArray.size=1 then l.toArray[0] else .tuple l.toArray)=(match l with | [x]=>x | l=>.tuple l.toArray):=by
  intro l;match l with
  | []=>rfl
  | [x]=>rfl
  | x::y::l=>simp
 show Result.ok _ w=_;rw [hd];congr 1;match ss with
 | []=>rfl
 | [x]=>rfl
 | x::y::l=>rfl)
end
inductive Eff where
 | pure (s:SV)
 | new (t:TypeId) (cs:List SV)
 | put (b:Nat) (t:TypeId) (cs:List SV)
def GX (T:TI) (l:Fr) (B:Bx):Op→Option Eff
 | .move x=>match ev l x with
  | some s=>some (.pure s)
  | none=>none
 | .assign x=>match ev l x with
  | some s=>some (.pure s)
  | none=>none
 | .pick c x y=>match ev l c with
  | some (.v (.bool true))=>match ev l x with
   | some s=>some (.pure s)
   | none=>none
  | some (.v (.bool false))=>match ev l y with
   | some s=>some (.pure s)
   | none=>none
  | _=>none
 | .extract x i=>match ev l x with
  | some (.t ls)=>match uK ls i with
   | some s=>some (.pure s)
   | none=>none
  | _=>none
 | .fieldAddr s x f=>match ev l x with
  | some (.p b o)=>match T.off s f with
   | some d=>some (.pure (.p b (Nat.add o d)))
   | none=>none
  | _=>none
 | .alloc t=>match T.zero t with
  | some cs=>some (.new t cs)
  | none=>none
 | .box t x=>match ev l x with
  | some s=>match cellsOf s with
   | some cs=>match Ip cs with
    | true=>some (.new t cs)
    | false=>none
   | none=>none
  | none=>none
 | .load t x=>match ev l x with
  | some (.p b o)=>match kP B b with
   | some (_,cs)=>match T.size t with
    | some (n,true)=>match Nat.beq ((cs.drop o).take n).length n with
     | true=>some (.pure (.a ((cs.drop o).take n)))
     | false=>none
    | some (_,false)=>match uK cs o with
     | some s=>some (.pure s)
     | none=>none
    | none=>none
   | none=>none
  | _=>none
 | .store t x y=>match ev l x with
  | some (.p b o)=>match kP B b with
   | some (u,cs)=>match ev l y with
    | some (.a vs)=>match T.size t with
     | some (n,true)=>match Nat.beq vs.length n&&(Nat.ble (Nat.add o vs.length) cs.length&&Ip vs) with
      | true=>some (.put b u (GR cs o vs))
      | false=>none
     | _=>none
    | some (.t _)=>none
    | some s=>match T.size t with
     | some (1,false)=>match Nat.ble (Nat.succ o) cs.length&&okc s with
      | true=>some (.put b u (GR cs o [s]))
      | false=>none
     | _=>none
    | none=>none
   | none=>none
  | _=>none
 | _=>none
def aan (P:Program) (l:Fr) (B:Bx) (α:Env) (γ:l7) (w:World) (o:Oper):Eff→Prop
 | .pure s=>∀ ρ,Cons ρ (iI α γ l)→(execOp ρ o).run P w = .ok (.value (den α γ s)) w
 | .new t cs=>∃ w',aS w w'∧Cb w' w.heap.size t (dU α γ cs)∧(∀ c∈dU α γ cs,bU c=true)∧∀ ρ,Cons ρ (iI α γ l)→(execOp ρ o).run P w = .ok (.value (A0a w.heap.size)) w'
 | .put b t cs=>∃ w' old,kP B b=some (t,old)∧Xs [α b] w w'∧Cb w' (α b) t (dU α γ cs)∧(∀ c∈dU α γ cs,bU c=true)∧∀ ρ,Cons ρ (iI α γ l)→(execOp ρ o).run P w = .ok .skip w'
theorem KG {P:Program} {T:TI} (hT:BX P T) {w0:World} {l:Fr} {B:Bx} {Γ:Gm} {α:Env} {γ:l7} {w:World} {o:Oper} {e:Eff} (hH:Holds w0 B Γ α γ w) (h:GX T l B o.op=some e):aan P l B α γ w o e:=by
 obtain ⟨dst,op,ty,pos,aft,gu⟩:=o;dsimp only at h;cases op<;>try (cases h;done)
 case move x =>
  simp only [GX] at h;split at h
  · next s hs=>cases h;intro ρ hρ;unfold execOp;show Result.ok (Next.value (ρ x)) w=_;rw [hρ.fO (dJ hs)]
  · cases h
 case assign x =>
  simp only [GX] at h;split at h
  · next s hs=>cases h;intro ρ hρ;unfold execOp;show Result.ok (Next.value (ρ x)) w=_;rw [hρ.fO (dJ hs)]
  · cases h
 case pick c x y =>
  simp only [GX] at h;split at h
  · next hc =>
    split at h
    · next s hs =>cases h;intro ρ hρ;show (asBool (ρ c) >>= fun t=>pure (Next.value (if t then ρ x else ρ y))).run P w=_;rw [hρ.fO (dJ hc),hρ.fO (dJ hs)];rfl
    · cases h
  · next hc =>
    split at h
    · next s hs =>cases h;intro ρ hρ;show (asBool (ρ c) >>= fun t=>pure (Next.value (if t then ρ x else ρ y))).run P w=_;rw [hρ.fO (dJ hc),hρ.fO (dJ hs)];rfl
    · cases h
  · cases h
 case extract x i =>
  simp only [GX] at h;split at h
  · next ls hl =>
    split at h
    · next s hs =>cases h;refine fun ρ hρ=>fI _ w ?_;rw [hρ.fO (dJ hl)];rw [sQ] at hs;have e:(dU α γ ls).toArray[i]?=some (den α γ s):=(by rw [List.getElem?_toArray,j6,List.getElem?_map,hs];rfl);simp [den,Instr.extract,e]
    · cases h
  · cases h
 case fieldAddr s x f =>
  simp only [GX] at h;split at h
  · next b q hb =>
    split at h
    · next d hd =>cases h;refine fun ρ hρ=>fI _ w ?_;rw [hρ.fO (dJ hb)];exact hT.off s f d hd (α b) q w
    · cases h
  · cases h
 case alloc t =>
  simp only [GX] at h;split at h
  · next cs hz =>
    cases h;obtain ⟨z,h1,h2,h3,h4⟩:=hT.zero t cs hz
    have h0:(zeroValue t).run P w = .ok z w:=by
     cases hq:P.info? t with
     | none=>simp [hq] at h1
     | some i=>simp [hq] at h1;simp [zeroValue,typeInfo,hq,h1]
    have hc:Cb (w.alloc (.cells z.cells t)) w.heap.size t (dU α γ cs):=(by have:=Cb.new w t z.cells.toList;rw [h2];simpa using this);refine ⟨w.alloc (.cells z.cells t),aS.alloc w _,hc,h3 α γ,fun ρ hρ=>?_⟩;show (Instr.alloc t true (.tuple #[]) >>= fun u=>pure (Next.value u)).run P w=_;simp [Instr.alloc,Sem.run_bind,h0,newVar,newRow]
  · cases h
 case box t x =>
  simp only [GX] at h;split at h
  · next s hs =>
    split at h
    · next cs hc =>
      split at h
      · next hf =>cases h;have hcell:=Jf (α:=α) hH.sc hc hf;refine ⟨w.alloc (.cells (dU α γ cs).toArray t),aS.alloc w _,Cb.new w t _,mW hH.sc hf,fun ρ hρ=>?_⟩;show (Instr.box t (ρ x) >>= fun u=>pure (Next.value u)).run P w=_;rw [hρ.fO (dJ hs)];simp [Instr.box,Sem.run_bind,newVar,newRow,hcell]
      · cases h
    · cases h
  · cases h
 case load t x =>
  simp only [GX] at h;split at h
  · next b q hb =>
    split at h
    · next u cs hB =>
      obtain ⟨hC,hlo,hp⟩:=hH.box b u cs hB;split at h
      · next n hn =>
        split at h
        · next hl =>cases h;obtain ⟨h1,dd,h2,h3⟩:=hT.size t n true hn;refine fun ρ hρ=>fI _ w ?_;rw [hρ.fO (dJ hb)];have hl':=Nat.eq_of_beq_eq_true hl;have e:dU α γ ((cs.drop q).take n)=((dU α γ cs).drop q).take n:=(by rw [CV,CW]);have e2:(dU α γ ((cs.drop q).take n)).length=n:=(by rw [jh];exact hl');exact hC.load (part:=dU α γ ((cs.drop q).take n)) (by rw [e2,e]) h2 h3 (by rw [e2];exact h1)
        · cases h
      · next n hn =>
        split at h
        · next s hs =>cases h;obtain ⟨h1,dd,h2,h3⟩:=hT.size t n false hn;refine fun ρ hρ=>fI _ w ?_;rw [hρ.fO (dJ hb)];refine wG h2 h3 (hC.at ?_);rw [sQ] at hs;rw [j6,List.getElem?_map,hs];rfl
        · cases h
      · cases h
    · cases h
  · cases h
 case store t x y =>
  simp only [GX] at h;split at h
  · next b q hb =>
    split at h
    · next u cs hB =>
      obtain ⟨hC,hlo,hp⟩:=hH.box b u cs hB
      have fin:∀ (vs:List SV) (hq:q+vs.length≤cs.length) (hk:Ip vs=true),(∀ ρ,Cons ρ (iI α γ l)→(Instr.storeAt t (.pointer (some ⟨α b,q,none⟩)) (ρ y)).run P w = .ok () (w.setCells (α b) q (dU α γ vs))) →
        aan P l B α γ w ⟨dst,.store t x y,ty,pos,aft,gu⟩ (.put b u (GR cs q vs)):=fun vs hq hk hr=>by
       have hd:Pg (dU α γ cs) q (dU α γ vs)=dU α γ (GR cs q vs):=(by rw [yD,KD _ _ _ (by rw [jh,jh];exact hq)]);have hX:=xS (N:=α b) (dU α γ vs) q w;have hC':=xR (dU α γ vs) q hC;rw [hd] at hC';refine ⟨_,cs,hB,hX,hC',by rw [yD];exact GU hp (mW hH.sc hk),fun ρ hρ=>?_⟩;show (Instr.storeAt t (ρ x) (ρ y) >>= fun _=>pure Next.skip).run P w=_;rw [hρ.fO (dJ hb),Sem.run_bind,show den α γ (.p b q) = .pointer (some ⟨α b,q,none⟩) from rfl,hr ρ hρ];rfl
      split at h
      · next vs hs =>
        split at h
        · next n hn =>
          split at h
          · next hf =>cases h;simp only [Bool.and_eq_true] at hf;obtain ⟨h1,h2⟩:=hT.size t n true hn;have hl:=Nat.eq_of_beq_eq_true hf.1;have hq:=Nat.le_of_ble_eq_true hf.2.1;refine fin vs hq hf.2.2 fun ρ hρ=>?_;rw [hρ.fO (dJ hs)];exact Jg hC q _ (by rw [jh,jh];exact hq) t (by rw [jh,hl];exact h1) fun v hv=>(nI (mW hH.sc hf.2.2 v hv)).1
          · cases h
        · cases h
      · cases h
      · next s hns hnt hs =>
        split at h
        · next hn =>
          split at h
          · next hf =>cases h;rw [Bool.and_eq_true] at hf;obtain ⟨h1,h2⟩:=hT.size t 1 false hn;have hq:=Nat.le_of_ble_eq_true hf.1;have hpl:=CX (α:=α) hH.sc hf.2;refine fin [s] hq (by show (okc s&&true)=true;rw [hf.2];rfl) fun ρ hρ=>?_;rw [hρ.fO (dJ hs)];exact WC h1 (nI hpl).1 (nI hpl).2 (hC.at (List.getElem?_eq_getElem (by rw [jh];exact hq))) (hC.frozen q)
          · cases h
        · cases h
      · cases h
    · cases h
  · cases h
theorem Holds.sub {w0:World} {B B':Bx} {Γ Γ':Gm} {α:Env} {γ:l7} {w:World} (h:Holds w0 B Γ α γ w) (hB:∀ b x,kP B' b=some x→kP B b=some x) (hG:∀ g S,lZ Γ' g=some S→lZ Γ g=some S):Holds w0 B' Γ' α γ w where
 ex:=h.ex
 box b T cs hb:=h.box b T cs (hB _ _ hb)
 inj b b' h1 h2:=by
  obtain ⟨x,hx⟩:=h1;obtain ⟨y,hy⟩:=h2;exact h.inj b b' ⟨x,hB _ _ hx⟩ ⟨y,hB _ _ hy⟩
 sc:=h.sc
 fact g S hg:=S.grow (h.fact g S (hG g S hg)) (fun k ⟨b,⟨x,hx⟩,e⟩=>.inl ⟨b,⟨x,hB _ _ hx⟩,e⟩) fun k ⟨b,⟨x,hx⟩,e⟩=>(h.oq ⟨b,⟨x,hB _ _ hx⟩,e⟩).2.2
section
variable {A:Type}
def zF:List (Nat × A)→Nat→Option A
 | [],_=>none
 | (d,s)::l,t=>match Nat.beq d t with
  | true=>some s
  | false=>zF l t
def At {X:Type}:List X→Nat→X→Prop
 | [],_,_=>False
 | y::ys,j,x=>(j=ys.length∧x=y)∨At ys j x
theorem QX {X:Type}:∀ {xs:List X} {j:Nat} {x:X},At xs j x→j<xs.length
 | y::ys,j,x,h=>by
  rcases h with ⟨rfl,_⟩ | h
  · simp
  · have:=QX h;simp;omega
theorem abB {X:Type}:∀ {xs:List X} {j:Nat},j<xs.length→∃ x,At xs j x
 | y::ys,j,h=>by
  by_cases e:j=ys.length
  · exact ⟨y,.inl ⟨e,rfl⟩⟩
  · obtain ⟨x,hx⟩:=abB (xs:=ys) (j:=j) (by simp at h;omega);exact ⟨x,.inr hx⟩
theorem KH {X Y:Type} (f:X→Y):∀ {xs:List X} {j:Nat} {y:Y},At (xs.map f) j y↔∃ x,At xs j x∧y=f x
 | [],j,y=>⟨fun h=>h.elim,fun ⟨x,h,_⟩=>h.elim⟩
 | z::zs,j,y=>by
  constructor
  · rintro (⟨h1,h2⟩ | h)
    · exact ⟨z,.inl ⟨by simpa using h1,rfl⟩,h2⟩
    · obtain ⟨x,hx,e⟩:=(KH f).1 h;exact ⟨x,.inr hx,e⟩
  · rintro ⟨x,h,rfl⟩;rcases h with ⟨h1,rfl⟩ | h
    · exact .inl ⟨by simpa using h1,rfl⟩
    · exact .inr ((KH f).2 ⟨x,h,rfl⟩)
theorem Ji {X:Type}:∀ (post:List X) {xs:List X} {j:Nat} {x:X},At xs j x→At (post++xs) j x
 | [],_,_,_,h=>h
 | _::post,_,_,_,h=>.inr (Ji post h)
def sel (M:Nat) (base:List (Nat × A)):List (Option (Nat × A))→List (Nat × A)
 | []=>base
 | some e::xs=>match tb M xs.length with
  | true=>e::sel M base xs
  | false=>sel M base xs
 | none::xs=>sel M base xs
def GY (base:List (Nat × A)):List (Option (Nat × A))→List (Nat × A)
 | []=>base
 | some e::xs=>e::GY base xs
 | none::xs=>GY base xs
theorem BL {M:Nat} {base:List (Nat × A)}:∀ {xs:List (Option (Nat × A))},(∀ j,j<xs.length→tb M j=true)→sel M base xs=GY base xs
 | [],_=>rfl
 | some e::xs,h=>by unfold sel GY;rw [h xs.length (by simp)];dsimp only;rw [BL (xs:=xs) fun j hj=>h j (by simp;omega)]
 | none::xs,h=>by unfold sel GY;exact BL (xs:=xs) fun j hj=>h j (by simp;omega)
theorem zG {M t:Nat} {base:List (Nat × A)}:∀ {xs:List (Option (Nat × A))},(∀ j e,At xs j (some e)→e.1=t→tb M j=true)→zF (sel M base xs) t=zF (GY base xs) t
 | [],_=>rfl
 | none::xs,h=>zG (xs:=xs) fun j e hj=>h j e (.inr hj)
 | some e::xs,h=>by
  have ih:=zG (base:=base) (xs:=xs) fun j e hj=>h j e (.inr hj);obtain ⟨d,s⟩:=e;unfold sel GY;cases hb:tb M xs.length with
  | true=>simp only [zF,ih]
  | false =>
   have hne:Nat.beq d t=false:=by
    cases hd:Nat.beq d t with
    | false=>rfl
    | true =>have:=h xs.length (d,s) (.inl ⟨rfl,rfl⟩) (Nat.eq_of_beq_eq_true hd);rw [hb] at this;cases this
   simp only [zF,hne,ih]
theorem GZ {M t:Nat} {base:List (Nat × A)}:∀ (post:List (Option (Nat × A))) {xs:List (Option (Nat × A))},(∀ j e,At (post++xs) j (some e)→xs.length≤j→e.1=t→tb M j=false)→zF (sel M base (post++xs)) t=zF (sel M base xs) t
 | [],_,_=>rfl
 | none::post,xs,h=>GZ post fun j e hj=>h j e (.inr hj)
 | some e::post,xs,h=>by
  have ih:=GZ (M:=M) (t:=t) (base:=base) post (xs:=xs) fun j e hj=>h j e (.inr hj);obtain ⟨d,s⟩:=e;have e1:sel M base (some (d,s)::(post++xs))=(match tb M (post++xs).length with | true=>(d,s)::sel M base (post++xs) | false=>sel M base (post++xs)):=rfl;rw [List.cons_append,e1];cases hb:tb M (post++xs).length with
  | false=>exact ih
  | true =>
   have hne:Nat.beq d t=false:=by
    cases hd:Nat.beq d t with
    | false=>rfl
    | true =>have:=h (post++xs).length (d,s) (.inl ⟨rfl,rfl⟩) (by simp) (Nat.eq_of_beq_eq_true hd);rw [hb] at this;cases this
   simp only [zF,hne,ih]
theorem QY {M M' t i:Nat} {base:List (Nat × A)} (hM:∀ j,tb M' j=(tb M j||decide (j=i))):∀ {xs:List (Option (Nat × A))} {x:Option (Nat × A)},At xs i x →
  (∀ s,x=some (t,s)→(∀ j e,At xs j (some e)→i<j→e.1=t→tb M j=false)→zF (sel M' base xs) t=some s)∧((∀ s,x≠some (t,s))→zF (sel M' base xs) t=zF (sel M base xs) t)
 | y :: ys,x,h=>by
  have same:∀ ys:List (Option (Nat × A)),ys.length≤i→sel M' base ys=sel M base ys:=by
   intro ys;induction ys with
   | nil=>intro _;rfl
   | cons y ys ih =>
    intro hl;have hl':ys.length<i:=(by simp at hl;omega);cases y with
    | none=>exact ih (by omega)
    | some e =>unfold sel;rw [hM ys.length,show decide (ys.length=i)=false from decide_eq_false (by omega),Bool.or_false,ih (by omega)]
  rcases h with ⟨hi,rfl⟩ | h
  · have hs:=same ys (by omega);have hb:tb M' ys.length=true:=(by rw [hM,← hi,decide_eq_true rfl,Bool.or_true]);refine ⟨fun s hx _=>?_,fun hn=>?_⟩
    · subst hx;unfold sel;rw [hb];simp only [zF,Nat.beq_refl]
    · cases x with
      | none=>unfold sel;rw [hs]
      | some e =>
       obtain ⟨d,s⟩:=e
       have hd:Nat.beq d t=false:=by
        cases hd:Nat.beq d t with
        | false=>rfl
        | true=>exact absurd (by rw [Nat.eq_of_beq_eq_true hd]) (hn s)
       unfold sel;rw [hb,hs];cases tb M ys.length<;>simp only [zF,hd]
  · have ih:=QY (t:=t) (base:=base) hM h;have hlt:=QX h;have hbit:tb M' ys.length=tb M ys.length:=(by rw [hM,show decide (ys.length=i)=false from decide_eq_false (by omega),Bool.or_false]);refine ⟨fun s hx ho=>?_,fun hn=>?_⟩
    · have h1:=ih.1 s hx fun j e hj=>ho j e (.inr hj);cases y with
      | none=>exact h1
      | some e =>
       obtain ⟨d,u⟩:=e;unfold sel;rw [hbit];cases hb:tb M ys.length with
       | false=>exact h1
       | true =>
        have hd:Nat.beq d t=false:=by
         cases hd:Nat.beq d t with
         | false=>rfl
         | true =>have:=ho ys.length (d,u) (.inl ⟨rfl,rfl⟩) hlt (Nat.eq_of_beq_eq_true hd);rw [hb] at this;cases this
        simp only [zF,hd];exact h1
    · have h1:=ih.2 hn;cases y with
      | none=>exact h1
      | some e =>
       obtain ⟨d,u⟩:=e;unfold sel;rw [hbit];cases tb M ys.length with
       | false=>exact h1
       | true=>simp only [zF,h1]
end
theorem QZ:∀ (l:Fr) (t:Nat),lk l t=zF l t
 | [],_=>rfl
 | (d,s)::l,t=>by unfold lk zF;rw [QZ l t];cases Nat.beq d t<;>rfl
theorem KI:∀ (l:Bx) (t:Nat),kP l t=zF l t
 | [],_=>rfl
 | (d,s)::l,t=>by unfold kP zF;rw [KI l t];cases Nat.beq d t<;>rfl
theorem xU:∀ (l:Gm) (t:Nat),lZ l t=zF l t
 | [],_=>rfl
 | (d,s)::l,t=>by unfold lZ zF;rw [xU l t];cases Nat.beq d t<;>rfl
structure It where
 d:Option Nat
 out:SV
 rd:List Nat
 acc:List Nat
 gs:List Nat
 bx:Option (Nat × TypeId × List SV)
 nw:Option Nat
 gh:Option (Nat × Spec)
def It.kF:It→Option (Nat × SV)
 | ⟨some d,s,_,_,_,_,_,_⟩=>some (d,s)
 | ⟨none,_,_,_,_,_,_,_⟩=>none
abbrev Tr:=List It
def vS (l0:Fr) (tr:Tr):Fr:=GY l0 (tr.map It.kF)
def Xz (B0:Bx) (tr:Tr):Bx:=GY B0 (tr.map It.bx)
def Eg (Γ0:Gm) (tr:Tr):Gm:=GY Γ0 (tr.map It.gh)
def XA (M:Nat) (l0:Fr) (tr:Tr):Fr:=sel M l0 (tr.map It.kF)
def Tk (M:Nat) (B0:Bx) (tr:Tr):Bx:=sel M B0 (tr.map It.bx)
def Q0 (M:Nat) (Γ0:Gm) (tr:Tr):Gm:=sel M Γ0 (tr.map It.gh)
def kX (l:Fr):List Nat→Fr
 | []=>[]
 | t::ts=>match lk l t with
  | some s=>(t,s)::kX l ts
  | none=>kX l ts
def Ea (B:Bx):List Nat→Bx
 | []=>[]
 | t::ts=>match kP B t with
  | some s=>(t,s)::Ea B ts
  | none=>Ea B ts
def qb (Γ:Gm):List Nat→Gm
 | []=>[]
 | t::ts=>match lZ Γ t with
  | some s=>(t,s)::qb Γ ts
  | none=>qb Γ ts
theorem KJ {l:Fr}:∀ {ts:List Nat} {t:Nat} {s:SV},lk (kX l ts) t=some s→t∈ts∧lk l t=some s
 | [],_,_,h=>by cases h
 | q::ts,t,s,h=>by
  unfold kX at h;cases hq:lk l q with
  | none =>rw [hq] at h;obtain ⟨h1,h2⟩:=KJ h;exact ⟨List.mem_cons_of_mem _ h1,h2⟩
  | some u =>
   rw [hq] at h;unfold lk at h;cases hb:Nat.beq q t with
   | true =>rw [hb] at h;obtain rfl:=Nat.eq_of_beq_eq_true hb;obtain rfl:=Option.some.inj h;exact ⟨List.mem_cons_self,hq⟩
   | false =>rw [hb] at h;obtain ⟨h1,h2⟩:=KJ h;exact ⟨List.mem_cons_of_mem _ h1,h2⟩
theorem KL {B:Bx}:∀ {ts:List Nat} {t:Nat} {s:TypeId × List SV},kP (Ea B ts) t=some s→t∈ts∧kP B t=some s
 | [],_,_,h=>by cases h
 | q::ts,t,s,h=>by
  unfold Ea at h;cases hq:kP B q with
  | none =>rw [hq] at h;obtain ⟨h1,h2⟩:=KL h;exact ⟨List.mem_cons_of_mem _ h1,h2⟩
  | some u =>
   rw [hq] at h;unfold kP at h;cases hb:Nat.beq q t with
   | true =>rw [hb] at h;obtain rfl:=Nat.eq_of_beq_eq_true hb;obtain rfl:=Option.some.inj h;exact ⟨List.mem_cons_self,hq⟩
   | false =>rw [hb] at h;obtain ⟨h1,h2⟩:=KL h;exact ⟨List.mem_cons_of_mem _ h1,h2⟩
theorem KM {Γ:Gm}:∀ {ts:List Nat} {t:Nat} {s:Spec},lZ (qb Γ ts) t=some s→t∈ts∧lZ Γ t=some s
 | [],_,_,h=>by cases h
 | q::ts,t,s,h=>by
  unfold qb at h;cases hq:lZ Γ q with
  | none =>rw [hq] at h;obtain ⟨h1,h2⟩:=KM h;exact ⟨List.mem_cons_of_mem _ h1,h2⟩
  | some u =>
   rw [hq] at h;unfold lZ at h;cases hb:Nat.beq q t with
   | true =>rw [hb] at h;obtain rfl:=Nat.eq_of_beq_eq_true hb;obtain rfl:=Option.some.inj h;exact ⟨List.mem_cons_self,hq⟩
   | false =>rw [hb] at h;obtain ⟨h1,h2⟩:=KM h;exact ⟨List.mem_cons_of_mem _ h1,h2⟩
def vX (l l':Fr):Prop:=∀ t s,lk l t=some s→lk l' t=some s
theorem vX.ev {l l':Fr} (h:vX l l') {x:Operand} {s:SV} (e:ev l x=some s):ev l' x=some s:=by
 cases x with
 | tmp t=>exact h t s e
 | _=>exact e
theorem vX.evs {l l':Fr} (h:vX l l'):∀ {xs:List Operand} {ss:List SV},evs l xs=some ss→evs l' xs=some ss
 | [],_,e=>e
 | x::xs,ss,e=>by
  unfold Rf.evs at e ⊢;cases hx:Rf.ev l x with
  | none=>rw [hx] at e;cases e
  | some s =>
   rw [hx] at e;cases hxs:Rf.evs l xs with
   | none=>rw [hxs] at e;cases e
   | some us =>rw [hxs] at e;rw [h.ev hx,h.evs hxs];exact e
theorem vX.lJ {L:List Oper} {l l':Fr} (h:vX l l') {g:Option (Nat × Bool)} {b:Bool} (e:lJ L l g=some b):lJ L l' g=some b:=by
 cases g with
 | none=>exact e
 | some q =>
  obtain ⟨j,c⟩:=q;simp only [Rf.lJ] at e ⊢;cases ho:nth L j with
  | none=>rw [ho] at e;cases e
  | some oj =>
   rw [ho] at e;dsimp only at e ⊢;cases hd:oj.dst with
   | none=>rw [hd] at e;cases e
   | some d =>
    rw [hd] at e;dsimp only at e ⊢;cases hl:lk l d with
    | none=>rw [hl] at e;cases e
    | some s=>rw [hl] at e;rw [h d s hl];exact e
theorem vX.cons {l l':Fr} (h:vX l l') {α:Env} {γ:l7} {ρ:Operand→Value} (hρ:Cons ρ (iI α γ l')):Cons ρ (iI α γ l) where
 tmp t v hv:=by
  rw [iC] at hv;cases hl:lk l t with
  | none=>rw [hl] at hv;cases hv
  | some s =>rw [hl] at hv;exact hρ.tmp t v (by rw [iC,h t s hl];exact hv)
 const:=hρ.const
 global:=hρ.global
 func:=hρ.func
