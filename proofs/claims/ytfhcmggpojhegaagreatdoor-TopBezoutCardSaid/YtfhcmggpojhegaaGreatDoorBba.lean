/- The iterator of Euclid's rests. -/
import Derived.Test.YtfhcmggpojhegaaGreatDoorBaz
import Derived.Test.YtfhcmggpojhegaaGreatDoorBac

namespace Go.Proofs.YtfhcmggpojhegaaGreatDoor
open Go.RowKit
set_option linter.all false
set_option maxRecDepth 100000
set_option maxHeartbeats 8000000
theorem agP (l:List Nat) (p q:Nat):cs l p q=(p*(cs l 1 0).1+q*(cs l 0 1).1,p*(cs l 1 0).2+q*(cs l 0 1).2):=by
 induction l generalizing p q with
 | nil=>simp [cs]
 | cons k l ih =>
  show cs l q (p+k*q)=(p*(cs l 0 (1+k*0)).1+q*(cs l 1 (0+k*1)).1,p*(cs l 0 (1+k*0)).2+q*(cs l 1 (0+k*1)).2)
  rw [ih q (p+k*q),ih 0 (1+k*0),ih 1 (0+k*1)]
  simp only [Nat.mul_zero,Nat.zero_mul,Nat.zero_add,Nat.add_zero,Nat.one_mul,Nat.mul_one,Nat.mul_add,Nat.add_mul]
  refine Prod.ext ?_ ?_<;>dsimp only<;>grind
def MW (f:FuncId) (fs:List Value) (l:List Nat):Prop:=(∀ (u:Array Value) X,(callFunc f u).run Tryz.prog X = .ok (.enter f u) X) ∧
 ∀ Y vx vy x y,Un Y vx x→Un Y vy y→Sn x 100→Sn y 100→Calls Tryz.prog f (fs++([vx,vy]++[])).toArray Y fun e w'=>∃ a b,e = .returned (.tuple #[a,b])∧Un w' a (cs l x y).1∧Un w' b (cs l x y).2∧Ext Y w'
theorem MW.single {w:World} {v:Value} {q:Nat} (hq:Un w v q) (hl:Sn q 100):∀ Y vx vy x y,Ext w Y→Un Y vx x→Un Y vy y→Sn x 100→Sn y 100→Calls Tryz.prog 124 ([v]++([vx,vy]++[])).toArray Y fun e w'=>∃ a b,e = .returned (.tuple #[a,b])∧Un w' a (cs [q] x y).1∧Un w' b (cs [q] x y).2∧Ext Y w' :=
 fun Y vx vy x y hE hx hy hlx hly=>(KL Y v vx vy q x y (Un.below hq hE) hx hy hl hlx hly).mono fun e w' h=>h
theorem MW.many {a b:Nat} {l:List Nat} {ev:Bool} {u0 u1 v0 v1 P Q:Nat} (h:Tl a b l ev u0 u1 v0 v1 P Q) (hb:u0<4294967296∧u1<4294967296∧v0<4294967296∧v1<4294967296):MW 122 [Pf u0 u1 v0 v1 ev] l :=
 ⟨fun u X=>Pl.enters Tryz.func122 (by kernel_rfl) rfl u X,fun Y vx vy x y hx hy hlx hly=>(MX Y vx vy x y u0 u1 v0 v1 ev hx hy (hlx.le (by decide)) (hly.le (by decide)) hb).mono fun e w' h=>by
  obtain ⟨z1,z2,he,h1,h2,hE⟩:=h
  rw [agP,h.us,h.vs]
  refine ⟨z1,z2,he,?_,?_,hE⟩
  · show Un w' z1 (x*u0+y*v0);rw [Nat.mul_comm x,Nat.mul_comm y];exact h1
  · show Un w' z2 (x*u1+y*v1);rw [Nat.mul_comm x,Nat.mul_comm y];exact h2⟩
def YW (lp:Nat) (args:List Value) (X:World) (R:Ending→World→Prop):Prop :=
 ∃ rec:Loop,X.heap[lp]?=some (.loop rec)∧args.length=rec.params.size∧RoundIn Fence.wide 0 Tryz.prog lp rec.fn ((rec.params.zip args.toArray).foldl (fun tmps (t,a)=>tmps.setIfInBounds t a) rec.tmps) rec.assign rec.body X R
section
variable {L:List Oper} {S:World→Prop} {K:List (Nat × Value)→World→Prop} {k:Bool} {i m d:Nat} {o:Oper} {x y:Operand} {r:List (Bool × Nat × Nat)} {l:List (Nat × Value)} {w:World}
theorem PN {A1 A2:Option Addr} {n1 c1 n2 c2:Nat} (hS:S w) (ho:Pl.nth L i=some o) (hop:o.op = .build 91 #[(0,x),(1,y)]) (hd:o.dst=some d) (hg:Pl.gd L l o.guard=some true) (hx:Pl.dF l x=some (.slice A1 n1 c1)) (hy:Pl.dF l y=some (.slice A2 n2 c2))
  (h:Pl.dO Tryz.prog L S K r ((d,.agg #[.slice A1 n1 c1,.slice A2 n2 c2])::l) w):Pl.dO Tryz.prog L S K ((k,i,m)::r) l w :=
 Pl.dB hS ho hd hg (fun ρ hρ X _=>by
  unfold execOp;rw [hop]
  refine Pl.fJ _ X ?_
  have e1:=hρ.dF hx
  have e2:=hρ.dF hy
  simp only [List.map_toArray,List.map_cons,List.map_nil,e1,e2]
  go_simp) h
end
structure Rs (J:List Nat→List Nat→Nat × Nat→World→Prop) (a b Na Nb Ne Ng:Nat) (fe fg:Value) (Bs:List Nat) (w:World) (ql:List Nat) (pr:Nat × Nat) (P Q:Nat) (vp vq:Value) (X:World):Prop where
 ka:Cb X Na 22 [vp]
 kb:Cb X Nb 22 [vq]
 up:Un X vp P
 uq:Un X vq Q
 ke:Cb X Ne 95 [fe]
 kg:Cb X Ng 98 [fg]
 j:J ql ql pr X
 told:quo a b=ql++quo P Q
 gcd:Nat.gcd P Q=Nat.gcd a b
 sp:Sn P 90
 sq:Sn Q 90
 sz:w.heap.size≤X.heap.size
theorem Rs.keep {J:List Nat→List Nat→Nat × Nat→World→Prop} {a b Na Nb Ne Ng:Nat} {fe fg:Value} {Bs:List Nat} {w:World} {ql:List Nat} {pr:Nat × Nat} {P Q:Nat} {vp vq:Value} {X Y:World} (h:Rs J a b Na Nb Ne Ng fe fg Bs w ql pr P Q vp vq X)
  (hI:∀ ql pl pr X Y Cs,J ql pl pr X→Xt Cs X Y→(∀ k∈Cs,(w.heap.size≤k∧NR X k)∨k=Na∨k=Nb)→J ql pl pr Y) (hlt:Na<w.heap.size∧Nb<w.heap.size∧Ne<w.heap.size∧Ng<w.heap.size) {Cs:List Nat} (hX:Xt Cs X Y) (hC:∀ k∈Cs,w.heap.size≤k∧NR X k) :
  Rs J a b Na Nb Ne Ng fe fg Bs w ql pr P Q vp vq Y:=by
 have n:∀ N,N<w.heap.size→N∉Cs:=fun N hN hc=>by have:=(hC N hc).1;omega
 exact ⟨hX.cb h.ka (n _ hlt.1),hX.cb h.kb (n _ hlt.2.1),Un.kp h.up hX.kp,Un.kp h.uq hX.kp,hX.cb h.ke (n _ hlt.2.2.1),hX.cb h.kg (n _ hlt.2.2.2),hI _ _ _ _ _ _ h.j hX fun k hk=>.inl (hC k hk),h.told,h.gcd,h.sp,h.sq,Nat.le_trans h.sz hX.kp.1⟩
theorem Cb.Ti {w:World} {N:Nat} {T:TypeId} {f:Fn} {a b:Array Value} (h:Cb w N T [.func f a b]):(Instr.loadAt 98 (.pointer (some ⟨N,0,none⟩))).run Tryz.prog w = .ok (.func f a b) w:=by
 have hc:=h.cell
 clear h
 go_simp
theorem agQ {P Q:Nat} (h:(0:Int)≤dY P Q):Q≤P:=by
 rcases Nat.lt_or_ge P Q with h1 | h1
 · have h2:=zQ (P:Int) (Q:Int)
   rw [← h2,Int.sign_eq_neg_one_of_neg (by omega)] at h
   omega
 · exact h1
theorem PO (w:World) (va vb:Value) (a b:Nat) (l:List Nat) (ev:Bool) (u0 u1 v0 v1 P Q:Nat) (tl:Tl a b l ev u0 u1 v0 v1 P Q) (hbd:u0<4294967296∧u1<4294967296∧v0<4294967296∧v1<4294967296) (ha:Un w va a) (hb:Un w vb b) (hla:Sn a 900000) (hlb:Sn b 900000) :
  Calls Tryz.prog 123 #[Pf u0 u1 v0 v1 ev,va,vb] w fun e w'=>∃ z1 z2,e = .returned (.tuple #[z1,z2])∧Un w' z1 P∧Un w' z2 Q∧Ext w w':=by
 have hP:=tl.hP
 have hQ:=tl.hQ
 cases ev
 · simp only [IU,XC,Bool.not_false,if_true,Bool.false_eq_true,if_false] at hP hQ
   have h1:u0*a≤v0*b:=by
    have:(u0:Int)*a≤v0*b:=by omega
    exact_mod_cast this
   have h2:v1*b≤u1*a:=by
    have:(v1:Int)*b≤u1*a:=by omega
    exact_mod_cast this
   have e1:v0*b-u0*a=P:=by
    have:((v0*b-u0*a:Nat):Int)=P:=by rw [Int.natCast_sub h1,Int.natCast_mul,Int.natCast_mul];omega
    exact_mod_cast this
   have e2:u1*a-v1*b=Q:=by
    have:((u1*a-v1*b:Nat):Int)=Q:=by rw [Int.natCast_sub h2,Int.natCast_mul,Int.natCast_mul];omega
    exact_mod_cast this
   have:=Vn w va vb a b u0 u1 v0 v1 ha hb hla hlb hbd h1 h2
   rw [e1,e2] at this
   exact this
 · simp only [IU,XC,Bool.not_true,if_true,Bool.false_eq_true,if_false] at hP hQ
   have h1:v0*b≤u0*a:=by
    have:(v0:Int)*b≤u0*a:=by omega
    exact_mod_cast this
   have h2:u1*a≤v1*b:=by
    have:(u1:Int)*a≤v1*b:=by omega
    exact_mod_cast this
   have e1:u0*a-v0*b=P:=by
    have:((u0*a-v0*b:Nat):Int)=P:=by rw [Int.natCast_sub h1,Int.natCast_mul,Int.natCast_mul];omega
    exact_mod_cast this
   have e2:v1*b-u1*a=Q:=by
    have:((v1*b-u1*a:Nat):Int)=Q:=by rw [Int.natCast_sub h2,Int.natCast_mul,Int.natCast_mul];omega
    exact_mod_cast this
   have:=PR w va vb a b u0 u1 v0 v1 ha hb hla hlb hbd h1 h2
   rw [e1,e2] at this
   exact this
theorem Pl.MZ {n:Nat} {l:List (Nat × Value)} {w:World} {fn:Func} {R:Ending→World→Prop} {id id2:Nat} {cs cs1 cs2 M0:List Code} {N:Act→World→Prop} (hr:fn.results=#[]) (h:R (.returned (.tuple #[])) w) :
  Pl.V Tryz.prog (Exit.inBlock id2 (Pl.Ks Tryz.prog (Exit.then N (Pl.Ks Tryz.prog (Exit.inBlock id (Pl.Ks Tryz.prog (bodyPost Tryz.prog fn R) cs)) cs1)) cs2)) n [] (.ret::M0) l w:=fun a ha=>wp_ret (by
 refine Pl.uf (cs:=M0) ?_
 show Pl.Ks Tryz.prog (Exit.then N (Pl.Ks Tryz.prog (Exit.inBlock id (Pl.Ks Tryz.prog (bodyPost Tryz.prog fn R) cs)) cs1)) cs2 .ret a w
 refine Pl.uf ?_
 show Pl.Ks Tryz.prog (Exit.inBlock id (Pl.Ks Tryz.prog (bodyPost Tryz.prog fn R) cs)) cs1 .ret a w
 refine Pl.uf ?_
 show Pl.Ks Tryz.prog (bodyPost Tryz.prog fn R) cs .ret a w
 refine Pl.uf ⟨ha.defers,.tuple #[],?_,h⟩
 unfold results
 rw [hr]
 simp)
theorem ug (w:World) (a b:Nat) (va vb:Value) (Na Nb Ne Ng:Nat) (ef:FuncId) (vB:List Value) (af:FuncId) (Ch:List Value) (lp:Nat) (Bs:List Nat) (J:List Nat→List Nat→Nat × Nat→World→Prop) (Jx:World→Prop)
  (kna:Cb w Na 22 [va]) (knb:Cb w Nb 22 [vb]) (kne:Cb w Ne 95 [.func (.func ef) #[] vB.toArray]) (XD:Cb w Ng 98 [.func (.func af) #[] Ch.toArray])
  (ayO:Na<Nb∧Nb<Ne∧Ne<Ng) (Ci:∀ k∈Bs,k<w.heap.size∧k≠Na∧k≠Nb∧k≠Ne∧k≠Ng) (ha:Un w va a) (hb:Un w vb b) (hla:Sn a 90) (hlb:Sn b 90) (h0:J [] [] (a,b) w)
  (hI:∀ ql pl pr X Y Cs,J ql pl pr X→Xt Cs X Y→(∀ k∈Cs,(w.heap.size≤k∧NR X k)∨k=Na∨k=Nb)→J ql pl pr Y)
  (een:∀ (u:Array Value) X,(callFunc ef u).run Tryz.prog X = .ok (.enter ef u) X) (apW:∀ (u:Array Value) X,(callFunc af u).run Tryz.prog X = .ok (.enter af u) X)
  (yf:∀ (ql pl:List Nat) (pr:Nat × Nat) (q:Nat) (v:Value) (X:World),J ql pl pr X→(∃ rest,quo a b=(ql++[q])++rest)→Sn q 90→Un X v q→Calls Tryz.prog ef ([]++([v]++vB)).toArray X fun e X'=>e = .returned (.tuple #[])∧J (ql++[q]) pl pr X'∧Xc w.heap.size Bs X X')
  (rM:∀ (pl l:List Nat) (pr:Nat × Nat) (f:FuncId) (fs:List Value) (n:Int) (X:World),J (pl++l) pl pr X→(∃ rest,quo a b=(pl++l)++rest)→(∀ Y,Ext X Y→(∀ (u:Array Value) X,(callFunc f u).run Tryz.prog X = .ok (.enter f u) X)∧∀ vx vy x y,Un Y vx x→Un Y vy y→Sn x 100→Sn y 100→Calls Tryz.prog f (fs++([vx,vy]++[])).toArray Y fun e w'=>∃ a b,e = .returned (.tuple #[a,b])∧Un w' a (cs l x y).1∧Un w' b (cs l x y).2∧Ext Y w')→n=((l.length:Nat):Int) →
   Calls Tryz.prog af ([]++([Value.func (.func f) fs.toArray #[],.int .i64 n]++Ch)).toArray X fun e X'=>e = .returned (.tuple #[])∧J (pl++l) (pl++l) pr X'∧Xc w.heap.size Bs X X')
  (vC:∀ (ql:List Nat) (pr:Nat × Nat) (P Q:Nat) (vp vq:Value) (X:World),J ql ql pr X→quo a b=ql++quo P Q→Nat.gcd P Q=Nat.gcd a b→Sn P 90→Sn Q 90→Un X vp P→Un X vq Q→YW lp [.agg #[vp,vq]] X fun e X'=>(e = .returned (.bool true)∧J ql ql (P,Q) X'∧Xc w.heap.size Bs X X')∨(e = .returned (.bool false)∧Jx X')) :
  Calls Tryz.prog 118 #[.func (.yield lp) #[] #[],.pointer (some ⟨Nb,0,none⟩),.pointer (some ⟨Na,0,none⟩),.pointer (some ⟨Ne,0,none⟩),.pointer (some ⟨Ng,0,none⟩)] w fun e w'=>e = .returned (.tuple #[])∧((∃ P,J (quo a b) (quo a b) (P,0) w'∧P=Nat.gcd a b)∨Jx w'):=by
 have hlt:Na<w.heap.size∧Nb<w.heap.size∧Ne<w.heap.size∧Ng<w.heap.size:=⟨kna.lt,knb.lt,kne.lt,XD.lt⟩
 have hR0:Rs J a b Na Nb Ne Ng (.func (.func ef) #[] vB.toArray) (.func (.func af) #[] Ch.toArray) Bs w [] (a,b) a b va vb w:=⟨kna,knb,ha,hb,kne,XD,h0,rfl,rfl,hla,hlb,Nat.le_refl _⟩
 refine Pl.aZ (n:=69) (vs:=[.func (.yield lp) #[] #[],.pointer (some ⟨Nb,0,none⟩),.pointer (some ⟨Na,0,none⟩),.pointer (some ⟨Ne,0,none⟩),.pointer (some ⟨Ng,0,none⟩)]) Tryz.func118 rfl (by kernel_rfl) (by simp) ?_
 refine Pl.eF [(0,.func (.yield lp) #[] #[]),(1,.pointer (some ⟨Nb,0,none⟩)),(2,.pointer (some ⟨Na,0,none⟩)),(3,.pointer (some ⟨Ne,0,none⟩)),(4,.pointer (some ⟨Ng,0,none⟩))] (Pl.aa rfl (Pl.aa rfl (Pl.aa rfl (Pl.aa rfl (Pl.aa rfl Pl.aI))))) ?_
 repeat refine Pl.ay ?_
 refine Pl.dM ?_
 repeat refine Pl.ay ?_
 refine Pl.pV (fun m l' w'=>∃ ql pr P Q vp vq,m=Q∧Rs J a b Na Nb Ne Ng (.func (.func ef) #[] vB.toArray) (.func (.func af) #[] Ch.toArray) Bs w ql pr P Q vp vq w'∧l'=[(0,.func (.yield lp) #[] #[]),(1,.pointer (some ⟨Nb,0,none⟩)),(2,.pointer (some ⟨Na,0,none⟩)),(3,.pointer (some ⟨Ne,0,none⟩)),(4,.pointer (some ⟨Ng,0,none⟩))]) b ⟨[],(a,b),a,b,va,vb,rfl,hR0,rfl⟩ ?_
 rintro Q _ W ⟨ql,pr,P,_,vp,vq,rfl,hR,rfl⟩
 obtain ⟨Ap,cp,rfl,-⟩:=Un.sh hR.up
 obtain ⟨Aq,cq,rfl,-⟩:=Un.sh hR.uq
 rcases Nat.eq_zero_or_pos Q with nL | nL
 · repeat refine Pl.ay ?_
   refine Pl.ak (by kernel_rfl) ?_
   refine Pl.aH trivial rfl rfl rfl rfl rfl (Cb.limbs hR.kb) ?_
   refine eT trivial rfl rfl rfl rfl rfl ?_
   refine Pl.aN (v:=.bool false) trivial rfl rfl rfl rfl rfl rfl (fun X=>zR (decide_eq_false (PS nL)) X) ?_
   refine Pl.aj ?_
   repeat refine Pl.ay ?_
   refine Pl.bn rfl ?_
   repeat refine Pl.ay ?_
   refine Pl.lD ?_
   obtain ⟨rec,hrec,hrs,hrd⟩:=vC ql pr P Q _ _ W hR.j hR.told hR.gcd hR.sp hR.sq hR.up hR.uq
   repeat refine Pl.ay ?_
   refine Pl.Jv (by kernel_rfl) ?_
   refine Pl.IV ?_
   refine Pl.aA trivial rfl rfl rfl rfl rfl ?_
   refine Pl.aj ?_
   refine Pl.IV ?_
   refine Pl.aH trivial rfl rfl rfl rfl rfl (Cb.limbs hR.ka) ?_
   refine Pl.aj ?_
   refine Pl.IV ?_
   refine Pl.aH trivial rfl rfl rfl rfl rfl (Cb.limbs hR.kb) ?_
   refine Pl.aj ?_
   refine Pl.IV ?_
   refine PN trivial rfl rfl rfl rfl rfl rfl ?_
   refine Pl.aj ?_
   refine Pl.Tj rfl rfl rfl rfl rfl rfl hrec hrs (hrd.mono ?_)
   rintro e W2 h
   have e1:quo a b=ql:=by rw [hR.told,nL,lN,List.append_nil]
   have e2:P=Nat.gcd a b:=by rw [← hR.gcd,nL,Nat.gcd_zero_right]
   rcases h with ⟨rfl,hj,_⟩ | ⟨rfl,hj⟩
   · exact ⟨_,rfl,Pl.Tk (Pl.kV rfl ⟨rfl,.inl ⟨P,by rw [e1,← nL];exact hj,e2⟩⟩)⟩
   · exact ⟨_,rfl,Pl.Tk (Pl.kV rfl ⟨rfl,.inr hj⟩)⟩
 · have hQn:Q≠0:=Nat.ne_of_gt nL
   repeat refine Pl.ay ?_
   refine Pl.ak (by kernel_rfl) ?_
   refine Pl.aH trivial rfl rfl rfl rfl rfl (Cb.limbs hR.kb) ?_
   refine eT trivial rfl rfl rfl rfl rfl ?_
   refine Pl.aN (v:=.bool true) trivial rfl rfl rfl rfl rfl rfl (fun X=>zR (decide_eq_true (KM nL)) X) ?_
   refine Pl.aj ?_
   repeat refine Pl.ay ?_
   refine Pl.cK rfl ?_
   repeat refine Pl.ay ?_
   refine Pl.bM ?_
   repeat refine Pl.ay ?_
   refine Pl.dM ?_
   obtain ⟨rec,hrec,hrs,hrd⟩:=vC ql pr P Q _ _ W hR.j hR.told hR.gcd hR.sp hR.sq hR.up hR.uq
   repeat refine Pl.ay ?_
   refine Pl.Jv (by kernel_rfl) ?_
   refine Pl.IV ?_
   refine Pl.aA trivial rfl rfl rfl rfl rfl ?_
   refine Pl.aj ?_
   refine Pl.IV ?_
   refine Pl.aH trivial rfl rfl rfl rfl rfl (Cb.limbs hR.ka) ?_
   refine Pl.aj ?_
   refine Pl.IV ?_
   refine Pl.aH trivial rfl rfl rfl rfl rfl (Cb.limbs hR.kb) ?_
   refine Pl.aj ?_
   refine Pl.IV ?_
   refine PN trivial rfl rfl rfl rfl rfl rfl ?_
   refine Pl.aj ?_
   refine Pl.Tj rfl rfl rfl rfl rfl rfl hrec hrs (hrd.mono ?_)
   rintro e W2 (⟨rfl,hj2,hX2⟩ | ⟨rfl,hj2⟩)
   rotate_left
   · refine ⟨_,rfl,Pl.IV ?_⟩
     refine Pl.ng (v:=.bool true) trivial rfl rfl rfl rfl rfl (fun X=>by go_simp) ?_
     refine Pl.aj (Pl.Tk ?_)
     repeat refine Pl.ay ?_
     refine Pl.cK rfl ?_
     exact Pl.MZ rfl ⟨rfl,.inr hj2⟩
   refine ⟨_,rfl,Pl.IV ?_⟩
   refine Pl.ng (v:=.bool false) trivial rfl rfl rfl rfl rfl (fun X=>by go_simp) ?_
   refine Pl.aj (Pl.Tk ?_)
   repeat refine Pl.ay ?_
   refine Pl.bn rfl ?_
   repeat refine Pl.ay ?_
   refine Pl.bM ?_
   have nb:∀ N,N=Na∨N=Nb∨N=Ne∨N=Ng→N∉Bs:=fun N hN hb=>by have:=Ci N hb;omega
   have hR2:Rs J a b Na Nb Ne Ng (.func (.func ef) #[] vB.toArray) (.func (.func af) #[] Ch.toArray) Bs w ql (P,Q) P Q (.slice Ap (limbs P).length cp) (.slice Aq (limbs Q).length cq) W2:=⟨hX2.cb hR.ka (nb _ (by omega)) (.inl (by omega)),hX2.cb hR.kb (nb _ (by omega)) (.inl (by omega)),Un.kp hR.up hX2.kp,Un.kp hR.uq hX2.kp,hX2.cb hR.ke (nb _ (by omega)) (.inl (by omega)),hX2.cb hR.kg (nb _ (by omega)) (.inl (by omega)),hj2,hR.told,hR.gcd,hR.sp,hR.sq,Nat.le_trans hR.sz hX2.kp.1⟩
   clear hR hrec hrs hrd hj2 hX2
   obtain ⟨b3,hb3⟩:∃ b3,decide ((2:Int)<((limbs P).length:Int))=b3:=⟨_,rfl⟩
   cases b3
   · repeat refine Pl.ay ?_
     refine Pl.ak (by kernel_rfl) ?_
     refine Pl.aH trivial rfl rfl rfl rfl rfl (Cb.limbs hR2.ka) ?_
     refine eT trivial rfl rfl rfl rfl rfl ?_
     refine Pl.aN (v:=.bool false) trivial rfl rfl rfl rfl rfl rfl (fun X=>zR (by rw [hb3]) X) ?_
     refine Pl.aA trivial rfl rfl rfl rfl rfl ?_
     refine Pl.kW rfl rfl rfl ?_
     refine Pl.kW rfl rfl rfl ?_
     refine Pl.kW rfl rfl rfl ?_
     refine Pl.kW rfl rfl rfl ?_
     refine Pl.pq trivial rfl rfl rfl rfl rfl rfl ?_
     refine Pl.aj ?_
     repeat refine Pl.ay ?_
     refine Pl.uQ (fun l' w'=>Rs J a b Na Nb Ne Ng (.func (.func ef) #[] vB.toArray) (.func (.func af) #[] Ch.toArray) Bs w ql (P,Q) P Q (.slice Ap (limbs P).length cp) (.slice Aq (limbs Q).length cq) w'∧l'=[(0,.func (.yield lp) #[] #[]),(1,.pointer (some ⟨Nb,0,none⟩)),(2,.pointer (some ⟨Na,0,none⟩)),(3,.pointer (some ⟨Ne,0,none⟩)),(4,.pointer (some ⟨Ng,0,none⟩))]) ?_ (fun key=>?_)
     rotate_left
     · repeat refine Pl.ay ?_
       refine Pl.bn rfl ?_
       repeat refine Pl.ay ?_
       refine Pl.bM ?_
       refine Pl.eF [(0,.func (.yield lp) #[] #[]),(1,.pointer (some ⟨Nb,0,none⟩)),(2,.pointer (some ⟨Na,0,none⟩)),(3,.pointer (some ⟨Ne,0,none⟩)),(4,.pointer (some ⟨Ng,0,none⟩))] (Pl.aa rfl (Pl.aa rfl (Pl.aa rfl (Pl.aa rfl (Pl.aa rfl Pl.aI))))) ?_
       exact key _ _ ⟨hR2,rfl⟩
     rintro l' W ⟨hR,rfl⟩
     repeat refine Pl.ay ?_
     refine Pl.ak (by kernel_rfl) ?_
     refine Pl.aH trivial rfl rfl rfl rfl rfl (Cb.limbs hR.ka) ?_
     refine Pl.aH trivial rfl rfl rfl rfl rfl (Cb.limbs hR.kb) ?_
     refine Pl.az rfl rfl rfl rfl rfl (fun u X=>Pl.enters Tryz.func18 (by kernel_rfl) rfl u X) ?_
     refine Calls.mono (iI _ _ _ P Q _ _ hR.up hR.uq (hR.sp.le (by decide)) (hR.sq.le (by decide)) hQn rfl rfl) ?_
     rintro e W4 ⟨⟨v1,v2,rfl,hq1,hr1⟩,hB4⟩
     refine ⟨_,rfl,trivial,?_⟩
     refine Pl.aA trivial rfl rfl rfl rfl rfl ?_
     refine Pl.aL trivial rfl rfl rfl rfl rfl rfl ?_
     refine Pl.aL trivial rfl rfl rfl rfl rfl rfl ?_
     refine Pl.aL trivial rfl rfl rfl rfl rfl rfl ?_
     refine Pl.aF trivial rfl rfl rfl rfl rfl ?_
     refine Pl.aF trivial rfl rfl rfl rfl rfl ?_
     refine Pl.aF trivial rfl rfl rfl rfl rfl ?_
     refine Pl.aj ?_
     have sF:=hR.keep hI hlt (Xt.ext (Bs:=[]) hB4) (by simp)
     have htold:quo a b=(ql++[P/Q])++quo Q (P%Q):=by rw [hR.told,nY hQn,List.append_assoc];rfl
     have M3:Sn (P/Q) 90:=hR.sp.div
     repeat refine Pl.ay ?_
     refine Pl.ak (by kernel_rfl) ?_
     refine Pl.aH trivial rfl rfl rfl rfl rfl (Cb.func sF.ke) ?_
     refine Pl.aA trivial rfl rfl rfl rfl rfl ?_
     refine Pl.gG rfl rfl rfl rfl rfl rfl een ?_
     refine Calls.mono (yf ql ql (P,Q) (P/Q) v1 W4 sF.j ⟨_,htold⟩ M3 hq1) ?_
     rintro e W5 ⟨rfl,hj5,Jw⟩
     refine ⟨_,rfl,trivial,?_⟩
     refine Pl.aj ?_
     have nb:∀ N,N=Na∨N=Nb∨N=Ne∨N=Ng→N∉Bs:=fun N hN hb=>by have:=Ci N hb;omega
     have kg5:=Jw.cb sF.kg (nb _ (by omega)) (.inl (by omega))
     have Tm:=Un.kp hq1 Jw.kp
     obtain ⟨Av,cv,rfl,-⟩:=Un.sh hq1
     repeat refine Pl.ay ?_
     refine Pl.ak (by kernel_rfl) ?_
     refine Pl.aH trivial rfl rfl rfl rfl rfl (Cb.Ti kg5) ?_
     refine Pl.aA trivial rfl rfl rfl rfl rfl ?_
     refine Pl.nZ trivial rfl rfl rfl rfl rfl rfl ?_
     refine Pl.gG rfl rfl rfl rfl rfl rfl apW ?_
     refine Calls.mono (rM ql [P/Q] (P,Q) 124 [.slice Av (limbs (P/Q)).length cv] 1 W5 hj5 ⟨_,htold⟩ (fun Y hY=>⟨fun u X=>Pl.enters Tryz.func124 (by kernel_rfl) rfl u X,fun vx vy x y hx hy hlx hly=>MW.single Tm (M3.le (by decide)) Y vx vy x y hY hx hy hlx hly⟩) rfl) ?_
     rintro e W6 ⟨rfl,hj6,Pg⟩
     refine ⟨_,rfl,trivial,?_⟩
     refine Pl.aj ?_
     have oz:=Jw.trans Pg
     have XE:=oz.cb sF.ka (nb _ (by omega)) (.inl (by omega))
     have kb6:=oz.cb sF.kb (nb _ (by omega)) (.inl (by omega))
     have ke6:=oz.cb sF.ke (nb _ (by omega)) (.inl (by omega))
     have kg6:=oz.cb sF.kg (nb _ (by omega)) (.inl (by omega))
     have up6:=Un.kp sF.up oz.kp
     have uq6:=Un.kp sF.uq oz.kp
     have hr6:=Un.kp hr1 oz.kp
     have Cj:=Nat.le_trans sF.sz oz.kp.1
     obtain ⟨Ar,cr,rfl,-⟩:=Un.sh hr1
     repeat refine Pl.ay ?_
     refine Pl.ak (by kernel_rfl) ?_
     refine Pl.aH trivial rfl rfl rfl rfl rfl (Cb.limbs kb6) ?_
     refine Pl.aA trivial rfl rfl rfl rfl rfl ?_
     refine Pl.aW rfl rfl rfl rfl rfl rfl (Cb.dN XE Aq (limbs Q).length cq) trivial ?_
     have s7:Xt [Na] W6 (W6.setCell ⟨Na,0,none⟩ (.slice Aq (limbs Q).length cq)):=Xt.set XE (bP _ _ _) (by simp) 0 _
     have ka7:=Cb.set XE 0 (.slice Aq (limbs Q).length cq)
     have XF:=s7.cb kb6 (by simp;omega)
     have ke7:=s7.cb ke6 (by simp;omega)
     have kg7:=s7.cb kg6 (by simp;omega)
     have hj7:=hI _ _ _ _ _ _ hj6 s7 (by simp)
     have zS:=Nat.le_trans Cj s7.kp.1
     have kp7:=s7.kp
     generalize W6.setCell ⟨Na,0,none⟩ (.slice Aq (limbs Q).length cq)=W7 at *
     refine Pl.aW rfl rfl rfl rfl rfl rfl (Cb.dN XF Ar (limbs (P%Q)).length cr) trivial ?_
     have s8:Xt [Nb] W7 (W7.setCell ⟨Nb,0,none⟩ (.slice Ar (limbs (P%Q)).length cr)):=Xt.set XF (bP _ _ _) (by simp) 0 _
     have kb8:=Cb.set XF 0 (.slice Ar (limbs (P%Q)).length cr)
     have ka8:=s8.cb ka7 (by simp;omega)
     have ke8:=s8.cb ke7 (by simp;omega)
     have kg8:=s8.cb kg7 (by simp;omega)
     have hj8:=hI _ _ _ _ _ _ hj7 s8 (by simp)
     have xg:=Nat.le_trans zS s8.kp.1
     have kp8:=kp7.trans s8.kp
     generalize W7.setCell ⟨Nb,0,none⟩ (.slice Ar (limbs (P%Q)).length cr)=W8 at *
     refine Pl.aj ?_
     have hR8:Rs J a b Na Nb Ne Ng (.func (.func ef) #[] vB.toArray) (.func (.func af) #[] Ch.toArray) Bs w (ql++[P/Q]) (P,Q) Q (P%Q) (.slice Aq (limbs Q).length cq) (.slice Ar (limbs (P%Q)).length cr) W8:=⟨ka8,kb8,Un.kp uq6 kp8,Un.kp hr6 kp8,ke8,kg8,hj8,htold,(zT P Q).trans sF.gcd,sF.sq,sF.sq.mod hQn,xg⟩
     refine Pl.dG ?_
     exact Pl.jY [(0,.func (.yield lp) #[] #[]),(1,.pointer (some ⟨Nb,0,none⟩)),(2,.pointer (some ⟨Na,0,none⟩)),(3,.pointer (some ⟨Ne,0,none⟩)),(4,.pointer (some ⟨Ng,0,none⟩))] (Pl.aa rfl (Pl.aa rfl (Pl.aa rfl (Pl.aa rfl (Pl.aa rfl Pl.aI))))) (Nat.mod_lt P nL) ⟨_,_,_,_,_,_,rfl,hR8,rfl⟩
   · by_cases hc:(0:Int)≤dY P Q
     · repeat refine Pl.ay ?_
       refine Pl.ak (by kernel_rfl) ?_
       refine Pl.aH trivial rfl rfl rfl rfl rfl (Cb.limbs hR2.ka) ?_
       refine eT trivial rfl rfl rfl rfl rfl ?_
       refine Pl.aN (v:=.bool true) trivial rfl rfl rfl rfl rfl rfl (fun X=>zR (by rw [hb3]) X) ?_
       refine Pl.aA trivial rfl rfl rfl rfl rfl ?_
       refine Pl.aH trivial rfl rfl rfl rfl rfl (Cb.limbs hR2.ka) ?_
       refine Pl.aH trivial rfl rfl rfl rfl rfl (Cb.limbs hR2.kb) ?_
       refine Pl.az rfl rfl rfl rfl rfl (fun u X=>Pl.enters Tryz.func31 (by kernel_rfl) rfl u X) ?_
       refine Calls.mono (pU _ _ _ P Q hR2.up hR2.uq _ rfl) ?_
       rintro e W3 ⟨rfl,hB3⟩
       refine ⟨_,rfl,trivial,?_⟩
       refine Pl.aN (v:=.bool true) trivial rfl rfl rfl rfl rfl rfl (fun X=>Jy (decide_eq_true hc) X) ?_
       refine Pl.pq trivial rfl rfl rfl rfl rfl rfl ?_
       refine Pl.aj ?_
       have hR3:=hR2.keep hI hlt (Xt.ext (Bs:=[]) hB3) (by simp)
       repeat refine Pl.ay ?_
       refine Pl.uQ (fun l' w'=>Rs J a b Na Nb Ne Ng (.func (.func ef) #[] vB.toArray) (.func (.func af) #[] Ch.toArray) Bs w ql (P,Q) P Q (.slice Ap (limbs P).length cp) (.slice Aq (limbs Q).length cq) w'∧l'=[(0,.func (.yield lp) #[] #[]),(1,.pointer (some ⟨Nb,0,none⟩)),(2,.pointer (some ⟨Na,0,none⟩)),(3,.pointer (some ⟨Ne,0,none⟩)),(4,.pointer (some ⟨Ng,0,none⟩))]) ?_ (fun key=>?_)
       rotate_left
       · repeat refine Pl.ay ?_
         refine Pl.cK rfl ?_
         repeat refine Pl.ay ?_
         refine Pl.ak (by kernel_rfl) ?_
         refine fB rfl rfl rfl rfl (z:=.int .i64 0) (by kernel_rfl) (fun _ _=>trivial) ?_
         intro Nn W4 hB4 hNn kn4
         replace kn4:Cb W4 Nn 3 [.int .i64 0]:=kn4
         refine Pl.aW rfl rfl rfl rfl rfl rfl (Cb.sG kn4 0) trivial ?_
         have s5:Xt [Nn] W4 (W4.setCell ⟨Nn,0,none⟩ (.int .i64 0)):=Xt.set kn4 (mO _) (by simp) 0 _
         have kn5:=Cb.set kn4 0 (.int .i64 0)
         have hwn:w.heap.size≤Nn:=Nat.le_trans hR3.sz hNn
         have zU:=(hR3.keep hI hlt (Xt.ext (Bs:=[]) hB4) (by simp)).keep hI hlt s5 (by simp;exact ⟨hwn,NR.of kn4 (by decide)⟩)
         generalize W4.setCell ⟨Nn,0,none⟩ (.int .i64 0)=W5 at *
         refine Pl.aj ?_
         replace kn5:Cb W5 Nn 3 [.int .i64 ((([]:List Nat).length:Nat):Int)]:=kn5
         have hPQ:Q≤P:=agQ hc
         have hlen:3≤(limbs P).length∧(limbs P).length≤1000000:=⟨by rw [decide_eq_true_iff] at hb3;omega,Nat.le_trans zU.sp (by decide)⟩
         repeat refine Pl.ay ?_
         have hgc:∀ (l:List Nat) (q:Nat) (X:World),q<18446744073709551616→(∃ rest,quo P Q=(l++[q])++rest)→(fun l X=>J (ql++l) ql (P,Q) X∧Cb X Nn 3 [.int .i64 ((l.length:Nat):Int)]∧Cb X Ne 95 [(.func (.func ef) #[] vB.toArray)]) l X→Calls Tryz.prog 120 ([]++([Value.int .u64 (q:Int)]++[Value.pointer (some ⟨Ne,0,none⟩),Value.pointer (some ⟨Nn,0,none⟩)])).toArray X fun e X'=>e = .returned (.tuple #[])∧(fun l X=>J (ql++l) ql (P,Q) X∧Cb X Nn 3 [.int .i64 ((l.length:Nat):Int)]∧Cb X Ne 95 [(.func (.func ef) #[] vB.toArray)]) (l++[q]) X'∧Xc w.heap.size (Nn::Bs) X X':=by
          intro l q X hq hpre hIX
          obtain ⟨hjX,hnX,heX⟩:=hIX
          have Jz:∃ rest,quo a b=((ql++l)++[q])++rest:=by obtain ⟨rest,hr⟩:=hpre;exact ⟨rest,by rw [zU.told,hr];simp⟩
          have hsh:=pM (a:=a) (hlb.le (show 90≤1000 by decide))
          have hll:l.length≤64000:=by obtain ⟨rest,hr⟩:=Jz;rw [hr] at hsh;simp at hsh;omega
          have hnn:Nn∉Bs:=fun hb=>by have:=Ci _ hb;omega
          have hnE:Ne∉Bs:=fun hb=>by have:=Ci _ hb;omega
          refine (PT X q hq ef [] vB Ne Nn _ _ ((l.length:Nat):Int) w.heap.size Bs (fun Y=>J ((ql++l)++[q]) ql (P,Q) Y) (by decide) (by decide) heX hnX (by omega) hnE hnn een (fun Y v hY hv=>yf (ql++l) ql (P,Q) q v Y (hI _ _ _ _ _ [] hjX (Xt.ext hY) (by simp)) Jz (Sn.of (Nat.lt_of_lt_of_le hq (by decide))) hv) (fun Y Z hj hx hnr=>hI _ _ _ _ _ _ hj hx (by simp;exact .inl ⟨hwn,hnr⟩))).mono fun e X' hh=>?_
          obtain ⟨he,hj,hn,hx⟩:=hh
          refine ⟨he,⟨by rw [← List.append_assoc];exact hj,?_,hx.cb heX (by simp;exact ⟨by omega,hnE⟩) (.inl (by omega))⟩,hx⟩
          rw [List.length_append,List.length_singleton,Int.natCast_add];exact hn
         refine Pl.ak (by kernel_rfl) ?_
         refine Pl.aH trivial rfl rfl rfl rfl rfl (Cb.limbs zU.ka) ?_
         refine Pl.aH trivial rfl rfl rfl rfl rfl (Cb.limbs zU.kb) ?_
         refine Pl.nZ trivial rfl rfl rfl rfl rfl rfl ?_
         refine Pl.az rfl rfl rfl rfl rfl (fun u X=>Pl.enters Tryz.func119 (by kernel_rfl) rfl u X) ?_
         refine Calls.mono (KN W5 _ _ P Q zU.up zU.uq hlen hPQ (zU.sq.le (by decide)) 120 [.pointer (some ⟨Ne,0,none⟩),.pointer (some ⟨Nn,0,none⟩)] w.heap.size (Nn::Bs) (by have:=kn5.lt;have hs:=zU.sz;intro k hk;rcases List.mem_cons.1 hk with rfl | hk<;>first | exact this | exact Nat.lt_of_lt_of_le (Ci k hk).1 hs) (fun l X=>J (ql++l) ql (P,Q) X∧Cb X Nn 3 [.int .i64 ((l.length:Nat):Int)]∧Cb X Ne 95 [(.func (.func ef) #[] vB.toArray)]) (fun u X=>Pl.enters Tryz.func120 (by kernel_rfl) rfl u X) hgc (by intro l X Y Cs hIX hX hC;have hs:=zU.sz;exact ⟨hI _ _ _ _ _ _ hIX.1 hX (fun k hk=>.inl ⟨Nat.le_trans hs (hC k hk).1,(hC k hk).2⟩),hX.cb hIX.2.1 (fun hk=>by have:=(hC _ hk).1;have:=kn5.lt;omega),hX.cb hIX.2.2 (fun hk=>by have:=(hC _ hk).1;omega)⟩) ⟨by rw [List.append_nil];exact zU.j,kn5,zU.ke⟩) ?_
         rintro e W6 ⟨l,u0,u1,v0,v1,ev,rfl,⟨hj6,kn6,ke6⟩,Pg,hz,hnz⟩
         refine ⟨_,rfl,trivial,?_⟩
         refine fB rfl rfl rfl rfl (z:=Pf 0 0 0 0 false) (by kernel_rfl) (fun _ _=>trivial) ?_
         intro Ns W7 dP hNs ks7
         refine iC (new:=[.int .u64 (u0:Int),.int .u64 (u1:Int),.int .u64 (v0:Int),.int .u64 (v1:Int),.bool ev]) ks7 rfl rfl rfl rfl rfl rfl (by kernel_rfl) rfl (by simp [Value.oneCell']) trivial ?_
         have hws:w.heap.size≤Ns:=Nat.le_trans (Nat.le_trans zU.sz Pg.kp.1) hNs
         have s8:Xt [Ns] W7 (W7.setRow Ns ([.int .u64 (u0:Int),.int .u64 (u1:Int),.int .u64 (v0:Int),.int .u64 (v1:Int),.bool ev]:List Value).toArray):=Xt.put ks7 (cO 0 0 0 0 false) (by simp) _
         have ks8:=Cb.put ks7 ([.int .u64 (u0:Int),.int .u64 (u1:Int),.int .u64 (v0:Int),.int .u64 (v1:Int),.bool ev]:List Value)
         have nsn:Nn≠Ns:=by have:=kn6.lt;omega
         have kn8:=s8.cb (Cb.ext kn6 dP) (by simp;exact nsn)
         have M4:Xt [Ns] W6 (W7.setRow Ns ([.int .u64 (u0:Int),.int .u64 (u1:Int),.int .u64 (v0:Int),.int .u64 (v1:Int),.bool ev]:List Value).toArray):=(Xt.ext dP).trans s8
         have hj8:=hI _ _ _ _ _ _ hj6 M4 (by simp;exact .inl ⟨hws,NR.out hNs⟩)
         generalize W7.setRow Ns ([.int .u64 (u0:Int),.int .u64 (u1:Int),.int .u64 (v0:Int),.int .u64 (v1:Int),.bool ev]:List Value).toArray=W8 at *
         have nb:∀ N,N=Na∨N=Nb∨N=Ne∨N=Ng→N∉Nn::Bs:=fun N hN hb=>by rcases List.mem_cons.1 hb with hb | hb<;>first | omega | (have:=Ci N hb;omega)
         have nb2:∀ N,N=Na∨N=Nb∨N=Ne∨N=Ng→N∉[Ns]:=fun N hN hb=>by rw [List.mem_singleton] at hb;omega
         have ka8:=M4.cb (Pg.cb zU.ka (nb _ (by omega)) (.inl (by omega))) (nb2 _ (by omega))
         have kb8:=M4.cb (Pg.cb zU.kb (nb _ (by omega)) (.inl (by omega))) (nb2 _ (by omega))
         have ke8:=M4.cb (Pg.cb zU.ke (nb _ (by omega)) (.inl (by omega))) (nb2 _ (by omega))
         have kg8:=M4.cb (Pg.cb zU.kg (nb _ (by omega)) (.inl (by omega))) (nb2 _ (by omega))
         have up8:=Un.kp (Un.kp zU.up Pg.kp) M4.kp
         have uq8:=Un.kp (Un.kp zU.uq Pg.kp) M4.kp
         have xg:=Nat.le_trans (Nat.le_trans zU.sz Pg.kp.1) M4.kp.1
         refine Pl.aj ?_
         repeat refine Pl.ay ?_
         refine Pl.ak (by kernel_rfl) ?_
         refine Pl.aH trivial rfl rfl rfl rfl rfl (Cb.load ks8 _ _ rfl rfl (by kernel_rfl)) ?_
         refine Pl.az rfl rfl rfl rfl rfl (fun u X=>Pl.enters Tryz.func121 (by kernel_rfl) rfl u X) ?_
         refine Calls.mono (PU _ u0 u1 v0 v1 ev) ?_
         rintro e W9 ⟨rfl,gW⟩
         refine ⟨_,rfl,trivial,?_⟩
         refine Pl.ng (v:=.bool (!decide (v0=0))) trivial rfl rfl rfl rfl rfl (fun X=>by go_simp) ?_
         refine Pl.aj ?_
         by_cases hv0:v0=0
         · have hl0:=hz hv0
           subst hl0
           rw [show (!decide (v0=0))=false from by simp [hv0]]
           repeat refine Pl.ay ?_
           refine Pl.bn rfl ?_
           repeat refine Pl.ay ?_
           refine Pl.bM ?_
           refine Pl.eF [(0,.func (.yield lp) #[] #[]),(1,.pointer (some ⟨Nb,0,none⟩)),(2,.pointer (some ⟨Na,0,none⟩)),(3,.pointer (some ⟨Ne,0,none⟩)),(4,.pointer (some ⟨Ng,0,none⟩))] (Pl.aa rfl (Pl.aa rfl (Pl.aa rfl (Pl.aa rfl (Pl.aa rfl Pl.aI))))) ?_
           refine key _ _ ⟨?_,rfl⟩
           have hR8:Rs J a b Na Nb Ne Ng (.func (.func ef) #[] vB.toArray) (.func (.func af) #[] Ch.toArray) Bs w ql (P,Q) P Q (.slice Ap (limbs P).length cp) (.slice Aq (limbs Q).length cq) W8:=⟨ka8,kb8,up8,uq8,ke8,kg8,by rw [List.append_nil] at hj8;exact hj8,zU.told,zU.gcd,zU.sp,zU.sq,xg⟩
           exact hR8.keep hI hlt (Xt.ext (Bs:=[]) gW) (by simp)
         · obtain ⟨hln,hbd,P2,Q2,tl⟩:=hnz hv0
           rw [show (!decide (v0=0))=true from by simp [hv0]]
           repeat refine Pl.ay ?_
           refine Pl.cK rfl ?_
           have ks9:=Cb.ext ks8 gW
           have kn9:=Cb.ext kn8 gW
           have kg9:=Cb.ext kg8 gW
           have ka9:=Cb.ext ka8 gW
           have kb9:=Cb.ext kb8 gW
           have ke9:=Cb.ext ke8 gW
           have up9:=Un.below up8 gW
           have uq9:=Un.below uq8 gW
           have hj9:=hI _ _ _ _ _ [] hj8 (Xt.ext gW) (by simp)
           have PV:=Nat.le_trans xg gW.size
           have htold:quo a b=(ql++l)++quo P2 Q2:=by rw [zU.told,tl.told,List.append_assoc]
           have nbb:∀ N,N=Na∨N=Nb∨N=Ne∨N=Ng∨N=Nn∨N=Ns→N∉Bs:=fun N hN hb=>by have:=Ci N hb;omega
           repeat refine Pl.ay ?_
           refine Pl.ak (by kernel_rfl) ?_
           refine Pl.aH trivial rfl rfl rfl rfl rfl (Cb.Ti kg9) ?_
           refine Pl.aH trivial rfl rfl rfl rfl rfl (Cb.load ks9 _ _ rfl rfl (by kernel_rfl)) ?_
           refine Pl.nZ trivial rfl rfl rfl rfl rfl rfl ?_
           refine Pl.aH trivial rfl rfl rfl rfl rfl (Cb.int kn9) ?_
           refine Pl.gG rfl rfl rfl rfl rfl rfl apW ?_
           refine Calls.mono (rM ql l (P,Q) 122 [Pf u0 u1 v0 v1 ev] _ W9 hj9 ⟨_,htold⟩ (fun Y hY=>⟨(MW.many tl hbd).1,(MW.many tl hbd).2 Y⟩) rfl) ?_
           rintro e W10 ⟨rfl,arj,M5⟩
           refine ⟨_,rfl,trivial,?_⟩
           refine Pl.aj ?_
           have aly:=M5.cb ka9 (nbb _ (by omega)) (.inl (by omega))
           have alz:=M5.cb kb9 (nbb _ (by omega)) (.inl (by omega))
           have ark:=M5.cb ke9 (nbb _ (by omega)) (.inl (by omega))
           have arl:=M5.cb kg9 (nbb _ (by omega)) (.inl (by omega))
           have arn:=M5.cb ks9 (nbb _ (by omega)) (.inr (by decide))
           have aro:=Un.kp up9 M5.kp
           have arp:=Un.kp uq9 M5.kp
           have yH:=Nat.le_trans PV M5.kp.1
           have hrs:=PO W10 _ _ P Q l ev u0 u1 v0 v1 P2 Q2 tl hbd aro arp (zU.sp.le (by decide)) (zU.sq.le (by decide))
           repeat refine Pl.ay ?_
           refine Pl.ak (by kernel_rfl) ?_
           refine Pl.aH trivial rfl rfl rfl rfl rfl (Cb.load arn _ _ rfl rfl (by kernel_rfl)) ?_
           refine Pl.aH trivial rfl rfl rfl rfl rfl (Cb.limbs aly) ?_
           refine Pl.aH trivial rfl rfl rfl rfl rfl (Cb.limbs alz) ?_
           refine Pl.az rfl rfl rfl rfl rfl (fun u X=>Pl.enters Tryz.func123 (by kernel_rfl) rfl u X) ?_
           refine Calls.mono (hrs) ?_
           rintro e W11 ⟨z1,z2,rfl,hz1,hz2,iD⟩
           obtain ⟨A1,c1,rfl,-⟩:=Un.sh hz1
           obtain ⟨A2,c2,rfl,-⟩:=Un.sh hz2
           have agU:=Cb.ext aly iD
           have ars:=Cb.ext alz iD
           have art:=Cb.ext ark iD
           have aru:=Cb.ext arl iD
           have arv:=hI _ _ _ _ _ [] arj (Xt.ext iD) (by simp)
           have xR:=Nat.le_trans yH iD.size
           refine ⟨_,rfl,trivial,?_⟩
           refine Pl.aA trivial rfl rfl rfl rfl rfl ?_
           refine Pl.aL trivial rfl rfl rfl rfl rfl rfl ?_
           refine Pl.aL trivial rfl rfl rfl rfl rfl rfl ?_
           refine Pl.aW rfl rfl rfl rfl rfl rfl (Cb.dN agU A1 (limbs P2).length c1) trivial ?_
           have s12:Xt [Na] W11 (W11.setCell ⟨Na,0,none⟩ (.slice A1 (limbs P2).length c1)):=Xt.set agU (bP _ _ _) (by simp) 0 _
           have arw:=Cb.set agU 0 (.slice A1 (limbs P2).length c1)
           have agV:=s12.cb ars (by simp;omega)
           have arx:=s12.cb art (by simp;omega)
           have ary:=s12.cb aru (by simp;omega)
           have arz:=hI _ _ _ _ _ _ arv s12 (by simp)
           have Fw:=Nat.le_trans xR s12.kp.1
           have arA:=s12.kp
           generalize W11.setCell ⟨Na,0,none⟩ (.slice A1 (limbs P2).length c1)=W12 at *
           refine Pl.aW rfl rfl rfl rfl rfl rfl (Cb.dN agV A2 (limbs Q2).length c2) trivial ?_
           have s13:Xt [Nb] W12 (W12.setCell ⟨Nb,0,none⟩ (.slice A2 (limbs Q2).length c2)):=Xt.set agV (bP _ _ _) (by simp) 0 _
           have arC:=Cb.set agV 0 (.slice A2 (limbs Q2).length c2)
           have arD:=s13.cb arw (by simp;omega)
           have arE:=s13.cb arx (by simp;omega)
           have arF:=s13.cb ary (by simp;omega)
           have arG:=hI _ _ _ _ _ _ arz s13 (by simp)
           have Fx:=Nat.le_trans Fw s13.kp.1
           have alA:=arA.trans s13.kp
           generalize W12.setCell ⟨Nb,0,none⟩ (.slice A2 (limbs Q2).length c2)=W13 at *
           refine Pl.aj ?_
           have arH:Rs J a b Na Nb Ne Ng (.func (.func ef) #[] vB.toArray) (.func (.func af) #[] Ch.toArray) Bs w (ql++l) (P,Q) P2 Q2 (.slice A1 (limbs P2).length c1) (.slice A2 (limbs Q2).length c2) W13:=⟨arD,arC,Un.kp hz1 alA,Un.kp hz2 alA,arE,arF,arG,htold,tl.gcd.trans zU.gcd,zU.sp.down (Nat.le_trans tl.ple (by omega)),zU.sq.down tl.qle.1,Fx⟩
           repeat refine Pl.ay ?_
           refine Pl.PW ?_
           exact Pl.jY [(0,.func (.yield lp) #[] #[]),(1,.pointer (some ⟨Nb,0,none⟩)),(2,.pointer (some ⟨Na,0,none⟩)),(3,.pointer (some ⟨Ne,0,none⟩)),(4,.pointer (some ⟨Ng,0,none⟩))] (Pl.aa rfl (Pl.aa rfl (Pl.aa rfl (Pl.aa rfl (Pl.aa rfl Pl.aI))))) (tl.qle.2 hln) ⟨_,_,_,_,_,_,rfl,arH,rfl⟩
       rintro l' W ⟨hR,rfl⟩
       repeat refine Pl.ay ?_
       refine Pl.ak (by kernel_rfl) ?_
       refine Pl.aH trivial rfl rfl rfl rfl rfl (Cb.limbs hR.ka) ?_
       refine Pl.aH trivial rfl rfl rfl rfl rfl (Cb.limbs hR.kb) ?_
       refine Pl.az rfl rfl rfl rfl rfl (fun u X=>Pl.enters Tryz.func18 (by kernel_rfl) rfl u X) ?_
       refine Calls.mono (iI _ _ _ P Q _ _ hR.up hR.uq (hR.sp.le (by decide)) (hR.sq.le (by decide)) hQn rfl rfl) ?_
       rintro e W4 ⟨⟨v1,v2,rfl,hq1,hr1⟩,hB4⟩
       refine ⟨_,rfl,trivial,?_⟩
       refine Pl.aA trivial rfl rfl rfl rfl rfl ?_
       refine Pl.aL trivial rfl rfl rfl rfl rfl rfl ?_
       refine Pl.aL trivial rfl rfl rfl rfl rfl rfl ?_
       refine Pl.aL trivial rfl rfl rfl rfl rfl rfl ?_
       refine Pl.aF trivial rfl rfl rfl rfl rfl ?_
       refine Pl.aF trivial rfl rfl rfl rfl rfl ?_
       refine Pl.aF trivial rfl rfl rfl rfl rfl ?_
       refine Pl.aj ?_
       have sF:=hR.keep hI hlt (Xt.ext (Bs:=[]) hB4) (by simp)
       have htold:quo a b=(ql++[P/Q])++quo Q (P%Q):=by rw [hR.told,nY hQn,List.append_assoc];rfl
       have M3:Sn (P/Q) 90:=hR.sp.div
       repeat refine Pl.ay ?_
       refine Pl.ak (by kernel_rfl) ?_
       refine Pl.aH trivial rfl rfl rfl rfl rfl (Cb.func sF.ke) ?_
       refine Pl.aA trivial rfl rfl rfl rfl rfl ?_
       refine Pl.gG rfl rfl rfl rfl rfl rfl een ?_
       refine Calls.mono (yf ql ql (P,Q) (P/Q) v1 W4 sF.j ⟨_,htold⟩ M3 hq1) ?_
       rintro e W5 ⟨rfl,hj5,Jw⟩
       refine ⟨_,rfl,trivial,?_⟩
       refine Pl.aj ?_
       have nb:∀ N,N=Na∨N=Nb∨N=Ne∨N=Ng→N∉Bs:=fun N hN hb=>by have:=Ci N hb;omega
       have kg5:=Jw.cb sF.kg (nb _ (by omega)) (.inl (by omega))
       have Tm:=Un.kp hq1 Jw.kp
       obtain ⟨Av,cv,rfl,-⟩:=Un.sh hq1
       repeat refine Pl.ay ?_
       refine Pl.ak (by kernel_rfl) ?_
       refine Pl.aH trivial rfl rfl rfl rfl rfl (Cb.Ti kg5) ?_
       refine Pl.aA trivial rfl rfl rfl rfl rfl ?_
       refine Pl.nZ trivial rfl rfl rfl rfl rfl rfl ?_
       refine Pl.gG rfl rfl rfl rfl rfl rfl apW ?_
       refine Calls.mono (rM ql [P/Q] (P,Q) 124 [.slice Av (limbs (P/Q)).length cv] 1 W5 hj5 ⟨_,htold⟩ (fun Y hY=>⟨fun u X=>Pl.enters Tryz.func124 (by kernel_rfl) rfl u X,fun vx vy x y hx hy hlx hly=>MW.single Tm (M3.le (by decide)) Y vx vy x y hY hx hy hlx hly⟩) rfl) ?_
       rintro e W6 ⟨rfl,hj6,Pg⟩
       refine ⟨_,rfl,trivial,?_⟩
       refine Pl.aj ?_
       have oz:=Jw.trans Pg
       have XE:=oz.cb sF.ka (nb _ (by omega)) (.inl (by omega))
       have kb6:=oz.cb sF.kb (nb _ (by omega)) (.inl (by omega))
       have ke6:=oz.cb sF.ke (nb _ (by omega)) (.inl (by omega))
       have kg6:=oz.cb sF.kg (nb _ (by omega)) (.inl (by omega))
       have up6:=Un.kp sF.up oz.kp
       have uq6:=Un.kp sF.uq oz.kp
       have hr6:=Un.kp hr1 oz.kp
       have Cj:=Nat.le_trans sF.sz oz.kp.1
       obtain ⟨Ar,cr,rfl,-⟩:=Un.sh hr1
       repeat refine Pl.ay ?_
       refine Pl.ak (by kernel_rfl) ?_
       refine Pl.aH trivial rfl rfl rfl rfl rfl (Cb.limbs kb6) ?_
       refine Pl.aA trivial rfl rfl rfl rfl rfl ?_
       refine Pl.aW rfl rfl rfl rfl rfl rfl (Cb.dN XE Aq (limbs Q).length cq) trivial ?_
       have s7:Xt [Na] W6 (W6.setCell ⟨Na,0,none⟩ (.slice Aq (limbs Q).length cq)):=Xt.set XE (bP _ _ _) (by simp) 0 _
       have ka7:=Cb.set XE 0 (.slice Aq (limbs Q).length cq)
       have XF:=s7.cb kb6 (by simp;omega)
       have ke7:=s7.cb ke6 (by simp;omega)
       have kg7:=s7.cb kg6 (by simp;omega)
       have hj7:=hI _ _ _ _ _ _ hj6 s7 (by simp)
       have zS:=Nat.le_trans Cj s7.kp.1
       have kp7:=s7.kp
       generalize W6.setCell ⟨Na,0,none⟩ (.slice Aq (limbs Q).length cq)=W7 at *
       refine Pl.aW rfl rfl rfl rfl rfl rfl (Cb.dN XF Ar (limbs (P%Q)).length cr) trivial ?_
       have s8:Xt [Nb] W7 (W7.setCell ⟨Nb,0,none⟩ (.slice Ar (limbs (P%Q)).length cr)):=Xt.set XF (bP _ _ _) (by simp) 0 _
       have kb8:=Cb.set XF 0 (.slice Ar (limbs (P%Q)).length cr)
       have ka8:=s8.cb ka7 (by simp;omega)
       have ke8:=s8.cb ke7 (by simp;omega)
       have kg8:=s8.cb kg7 (by simp;omega)
       have hj8:=hI _ _ _ _ _ _ hj7 s8 (by simp)
       have xg:=Nat.le_trans zS s8.kp.1
       have kp8:=kp7.trans s8.kp
       generalize W7.setCell ⟨Nb,0,none⟩ (.slice Ar (limbs (P%Q)).length cr)=W8 at *
       refine Pl.aj ?_
       have hR8:Rs J a b Na Nb Ne Ng (.func (.func ef) #[] vB.toArray) (.func (.func af) #[] Ch.toArray) Bs w (ql++[P/Q]) (P,Q) Q (P%Q) (.slice Aq (limbs Q).length cq) (.slice Ar (limbs (P%Q)).length cr) W8:=⟨ka8,kb8,Un.kp uq6 kp8,Un.kp hr6 kp8,ke8,kg8,hj8,htold,(zT P Q).trans sF.gcd,sF.sq,sF.sq.mod hQn,xg⟩
       refine Pl.dG ?_
       exact Pl.jY [(0,.func (.yield lp) #[] #[]),(1,.pointer (some ⟨Nb,0,none⟩)),(2,.pointer (some ⟨Na,0,none⟩)),(3,.pointer (some ⟨Ne,0,none⟩)),(4,.pointer (some ⟨Ng,0,none⟩))] (Pl.aa rfl (Pl.aa rfl (Pl.aa rfl (Pl.aa rfl (Pl.aa rfl Pl.aI))))) (Nat.mod_lt P nL) ⟨_,_,_,_,_,_,rfl,hR8,rfl⟩
     · repeat refine Pl.ay ?_
       refine Pl.ak (by kernel_rfl) ?_
       refine Pl.aH trivial rfl rfl rfl rfl rfl (Cb.limbs hR2.ka) ?_
       refine eT trivial rfl rfl rfl rfl rfl ?_
       refine Pl.aN (v:=.bool true) trivial rfl rfl rfl rfl rfl rfl (fun X=>zR (by rw [hb3]) X) ?_
       refine Pl.aA trivial rfl rfl rfl rfl rfl ?_
       refine Pl.aH trivial rfl rfl rfl rfl rfl (Cb.limbs hR2.ka) ?_
       refine Pl.aH trivial rfl rfl rfl rfl rfl (Cb.limbs hR2.kb) ?_
       refine Pl.az rfl rfl rfl rfl rfl (fun u X=>Pl.enters Tryz.func31 (by kernel_rfl) rfl u X) ?_
       refine Calls.mono (pU _ _ _ P Q hR2.up hR2.uq _ rfl) ?_
       rintro e W3 ⟨rfl,hB3⟩
       refine ⟨_,rfl,trivial,?_⟩
       refine Pl.aN (v:=.bool false) trivial rfl rfl rfl rfl rfl rfl (fun X=>Jy (decide_eq_false hc) X) ?_
       refine Pl.pq trivial rfl rfl rfl rfl rfl rfl ?_
       refine Pl.aj ?_
       have hR3:=hR2.keep hI hlt (Xt.ext (Bs:=[]) hB3) (by simp)
       repeat refine Pl.ay ?_
       refine Pl.uQ (fun l' w'=>Rs J a b Na Nb Ne Ng (.func (.func ef) #[] vB.toArray) (.func (.func af) #[] Ch.toArray) Bs w ql (P,Q) P Q (.slice Ap (limbs P).length cp) (.slice Aq (limbs Q).length cq) w'∧l'=[(0,.func (.yield lp) #[] #[]),(1,.pointer (some ⟨Nb,0,none⟩)),(2,.pointer (some ⟨Na,0,none⟩)),(3,.pointer (some ⟨Ne,0,none⟩)),(4,.pointer (some ⟨Ng,0,none⟩))]) ?_ (fun key=>?_)
       rotate_left
       · repeat refine Pl.ay ?_
         refine Pl.bn rfl ?_
         repeat refine Pl.ay ?_
         refine Pl.bM ?_
         refine Pl.eF [(0,.func (.yield lp) #[] #[]),(1,.pointer (some ⟨Nb,0,none⟩)),(2,.pointer (some ⟨Na,0,none⟩)),(3,.pointer (some ⟨Ne,0,none⟩)),(4,.pointer (some ⟨Ng,0,none⟩))] (Pl.aa rfl (Pl.aa rfl (Pl.aa rfl (Pl.aa rfl (Pl.aa rfl Pl.aI))))) ?_
         exact key _ _ ⟨hR3,rfl⟩
       rintro l' W ⟨hR,rfl⟩
       repeat refine Pl.ay ?_
       refine Pl.ak (by kernel_rfl) ?_
       refine Pl.aH trivial rfl rfl rfl rfl rfl (Cb.limbs hR.ka) ?_
       refine Pl.aH trivial rfl rfl rfl rfl rfl (Cb.limbs hR.kb) ?_
       refine Pl.az rfl rfl rfl rfl rfl (fun u X=>Pl.enters Tryz.func18 (by kernel_rfl) rfl u X) ?_
       refine Calls.mono (iI _ _ _ P Q _ _ hR.up hR.uq (hR.sp.le (by decide)) (hR.sq.le (by decide)) hQn rfl rfl) ?_
       rintro e W4 ⟨⟨v1,v2,rfl,hq1,hr1⟩,hB4⟩
       refine ⟨_,rfl,trivial,?_⟩
       refine Pl.aA trivial rfl rfl rfl rfl rfl ?_
       refine Pl.aL trivial rfl rfl rfl rfl rfl rfl ?_
       refine Pl.aL trivial rfl rfl rfl rfl rfl rfl ?_
       refine Pl.aL trivial rfl rfl rfl rfl rfl rfl ?_
       refine Pl.aF trivial rfl rfl rfl rfl rfl ?_
       refine Pl.aF trivial rfl rfl rfl rfl rfl ?_
       refine Pl.aF trivial rfl rfl rfl rfl rfl ?_
       refine Pl.aj ?_
       have sF:=hR.keep hI hlt (Xt.ext (Bs:=[]) hB4) (by simp)
       have htold:quo a b=(ql++[P/Q])++quo Q (P%Q):=by rw [hR.told,nY hQn,List.append_assoc];rfl
       have M3:Sn (P/Q) 90:=hR.sp.div
       repeat refine Pl.ay ?_
       refine Pl.ak (by kernel_rfl) ?_
       refine Pl.aH trivial rfl rfl rfl rfl rfl (Cb.func sF.ke) ?_
       refine Pl.aA trivial rfl rfl rfl rfl rfl ?_
       refine Pl.gG rfl rfl rfl rfl rfl rfl een ?_
       refine Calls.mono (yf ql ql (P,Q) (P/Q) v1 W4 sF.j ⟨_,htold⟩ M3 hq1) ?_
       rintro e W5 ⟨rfl,hj5,Jw⟩
       refine ⟨_,rfl,trivial,?_⟩
       refine Pl.aj ?_
       have nb:∀ N,N=Na∨N=Nb∨N=Ne∨N=Ng→N∉Bs:=fun N hN hb=>by have:=Ci N hb;omega
       have kg5:=Jw.cb sF.kg (nb _ (by omega)) (.inl (by omega))
       have Tm:=Un.kp hq1 Jw.kp
       obtain ⟨Av,cv,rfl,-⟩:=Un.sh hq1
       repeat refine Pl.ay ?_
       refine Pl.ak (by kernel_rfl) ?_
       refine Pl.aH trivial rfl rfl rfl rfl rfl (Cb.Ti kg5) ?_
       refine Pl.aA trivial rfl rfl rfl rfl rfl ?_
       refine Pl.nZ trivial rfl rfl rfl rfl rfl rfl ?_
       refine Pl.gG rfl rfl rfl rfl rfl rfl apW ?_
       refine Calls.mono (rM ql [P/Q] (P,Q) 124 [.slice Av (limbs (P/Q)).length cv] 1 W5 hj5 ⟨_,htold⟩ (fun Y hY=>⟨fun u X=>Pl.enters Tryz.func124 (by kernel_rfl) rfl u X,fun vx vy x y hx hy hlx hly=>MW.single Tm (M3.le (by decide)) Y vx vy x y hY hx hy hlx hly⟩) rfl) ?_
       rintro e W6 ⟨rfl,hj6,Pg⟩
       refine ⟨_,rfl,trivial,?_⟩
       refine Pl.aj ?_
       have oz:=Jw.trans Pg
       have XE:=oz.cb sF.ka (nb _ (by omega)) (.inl (by omega))
       have kb6:=oz.cb sF.kb (nb _ (by omega)) (.inl (by omega))
       have ke6:=oz.cb sF.ke (nb _ (by omega)) (.inl (by omega))
       have kg6:=oz.cb sF.kg (nb _ (by omega)) (.inl (by omega))
       have up6:=Un.kp sF.up oz.kp
       have uq6:=Un.kp sF.uq oz.kp
       have hr6:=Un.kp hr1 oz.kp
       have Cj:=Nat.le_trans sF.sz oz.kp.1
       obtain ⟨Ar,cr,rfl,-⟩:=Un.sh hr1
       repeat refine Pl.ay ?_
       refine Pl.ak (by kernel_rfl) ?_
       refine Pl.aH trivial rfl rfl rfl rfl rfl (Cb.limbs kb6) ?_
       refine Pl.aA trivial rfl rfl rfl rfl rfl ?_
       refine Pl.aW rfl rfl rfl rfl rfl rfl (Cb.dN XE Aq (limbs Q).length cq) trivial ?_
       have s7:Xt [Na] W6 (W6.setCell ⟨Na,0,none⟩ (.slice Aq (limbs Q).length cq)):=Xt.set XE (bP _ _ _) (by simp) 0 _
       have ka7:=Cb.set XE 0 (.slice Aq (limbs Q).length cq)
       have XF:=s7.cb kb6 (by simp;omega)
       have ke7:=s7.cb ke6 (by simp;omega)
       have kg7:=s7.cb kg6 (by simp;omega)
       have hj7:=hI _ _ _ _ _ _ hj6 s7 (by simp)
       have zS:=Nat.le_trans Cj s7.kp.1
       have kp7:=s7.kp
       generalize W6.setCell ⟨Na,0,none⟩ (.slice Aq (limbs Q).length cq)=W7 at *
       refine Pl.aW rfl rfl rfl rfl rfl rfl (Cb.dN XF Ar (limbs (P%Q)).length cr) trivial ?_
       have s8:Xt [Nb] W7 (W7.setCell ⟨Nb,0,none⟩ (.slice Ar (limbs (P%Q)).length cr)):=Xt.set XF (bP _ _ _) (by simp) 0 _
       have kb8:=Cb.set XF 0 (.slice Ar (limbs (P%Q)).length cr)
       have ka8:=s8.cb ka7 (by simp;omega)
       have ke8:=s8.cb ke7 (by simp;omega)
       have kg8:=s8.cb kg7 (by simp;omega)
       have hj8:=hI _ _ _ _ _ _ hj7 s8 (by simp)
       have xg:=Nat.le_trans zS s8.kp.1
       have kp8:=kp7.trans s8.kp
       generalize W7.setCell ⟨Nb,0,none⟩ (.slice Ar (limbs (P%Q)).length cr)=W8 at *
       refine Pl.aj ?_
       have hR8:Rs J a b Na Nb Ne Ng (.func (.func ef) #[] vB.toArray) (.func (.func af) #[] Ch.toArray) Bs w (ql++[P/Q]) (P,Q) Q (P%Q) (.slice Aq (limbs Q).length cq) (.slice Ar (limbs (P%Q)).length cr) W8:=⟨ka8,kb8,Un.kp uq6 kp8,Un.kp hr6 kp8,ke8,kg8,hj8,htold,(zT P Q).trans sF.gcd,sF.sq,sF.sq.mod hQn,xg⟩
       refine Pl.dG ?_
       exact Pl.jY [(0,.func (.yield lp) #[] #[]),(1,.pointer (some ⟨Nb,0,none⟩)),(2,.pointer (some ⟨Na,0,none⟩)),(3,.pointer (some ⟨Ne,0,none⟩)),(4,.pointer (some ⟨Ng,0,none⟩))] (Pl.aa rfl (Pl.aa rfl (Pl.aa rfl (Pl.aa rfl (Pl.aa rfl Pl.aI))))) (Nat.mod_lt P nL) ⟨_,_,_,_,_,_,rfl,hR8,rfl⟩
end Go.Proofs.YtfhcmggpojhegaaGreatDoor
