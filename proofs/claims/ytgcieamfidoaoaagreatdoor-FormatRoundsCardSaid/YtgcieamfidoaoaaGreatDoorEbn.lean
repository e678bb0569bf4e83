/- The iterator of Euclid's rests. -/
import Derived.Test.YtgcieamfidoaoaaGreatDoorEab
import Derived.Test.YtgcieamfidoaoaaGreatDoorEbe
import Derived.Test.YtgcieamfidoaoaaGreatDoorEbc
import Derived.Test.YtgcieamfidoaoaaGreatDoorEbm
import Derived.Test.YtgcieamfidoaoaaGreatDoorEac
set_option linter.all false
set_option maxHeartbeats 8000000
namespace Go.Proofs.YtgcieamfidoaoaaGreatDoor
open Go.RowKit
set_option maxRecDepth 100000
theorem YN (l:List Nat) (p q:Nat):cs l p q=(p*(cs l 1 0).1+q*(cs l 0 1).1,p*(cs l 1 0).2+q*(cs l 0 1).2):=by
 induction l generalizing p q with
 | nil=>simp [cs]
 | cons k l ih =>
  show cs l q (p+k*q)=(p*(cs l 0 (1+k*0)).1+q*(cs l 1 (0+k*1)).1,p*(cs l 0 (1+k*0)).2+q*(cs l 1 (0+k*1)).2)
  rw [ih q (p+k*q),ih 0 (1+k*0),ih 1 (0+k*1)]
  simp only [Nat.mul_zero,Nat.zero_mul,Nat.zero_add,Nat.add_zero,Nat.one_mul,Nat.mul_one,Nat.mul_add,Nat.add_mul]
  refine Prod.ext ?_ ?_<;>dsimp only<;>grind
def II (f:FuncId) (fs:List Value) (l:List Nat):Prop:=(∀ (u:Array Value) X,(callFunc f u).run Tryz.prog X = .ok (.enter f u) X) ∧
 ∀ Y vx vy x y,Un Y vx x→Un Y vy y→Sn x 78→Sn y 78→Calls Tryz.prog f (fs++([vx,vy]++[])).toArray Y fun e w'=>∃ a b,e = .returned (.tuple #[a,b])∧Un w' a (cs l x y).1∧Un w' b (cs l x y).2∧Ext Y w'
theorem II.single {w:World} {v:Value} {q:Nat} (hq:Un w v q) (hl:Sn q 78):∀ Y vx vy x y,Ext w Y→Un Y vx x→Un Y vy y→Sn x 78→Sn y 78→Calls Tryz.prog 221 ([v]++([vx,vy]++[])).toArray Y fun e w'=>∃ a b,e = .returned (.tuple #[a,b])∧Un w' a (cs [q] x y).1∧Un w' b (cs [q] x y).2∧Ext Y w' :=
 fun Y vx vy x y hE hx hy hlx U2=>(FL Y v vx vy q x y (Un.below hq hE) hx hy hl hlx U2).mono fun e w' h=>h
theorem II.many {a b:Nat} {l:List Nat} {ev:Bool} {u0 u1 v0 v1 P Q:Nat} (h:Tl a b l ev u0 u1 v0 v1 P Q) (hb:u0<4294967296∧u1<4294967296∧v0<4294967296∧v1<4294967296):II 219 [JS u0 u1 v0 v1 ev] l :=
 ⟨fun u X=>Pl.enters Tryz.func219 (by kernel_rfl) rfl u X,fun Y vx vy x y hx hy hlx U2=>(IJ Y vx vy x y u0 u1 v0 v1 ev hx hy (hlx.le (by decide)) (U2.le (by decide)) hb).mono fun e w' h=>by
  obtain ⟨z1,z2,he,h1,h2,hE⟩:=h
  rw [YN,h.us,h.vs]
  refine ⟨z1,z2,he,?_,?_,hE⟩
  · show Un w' z1 (x*u0+y*v0);rw [Nat.mul_comm x,Nat.mul_comm y];exact h1
  · show Un w' z2 (x*u1+y*v1);rw [Nat.mul_comm x,Nat.mul_comm y];exact h2⟩
def YW (lp:Nat) (args:List Value) (X:World) (R:Ending→World→Prop):Prop :=
 ∃ rec:Loop,X.heap[lp]?=some (.loop rec)∧args.length=rec.params.size∧RoundIn Fence.wide 0 Tryz.prog lp rec.fn ((rec.params.zip args.toArray).foldl (fun tmps (t,a)=>tmps.setIfInBounds t a) rec.tmps) rec.assign rec.body X R
section
variable {L:List Oper} {S:World→Prop} {K:List (Nat × Value)→World→Prop} {k:Bool} {i m d:Nat} {o:Oper} {x y:Operand} {r:List (Bool × Nat × Nat)} {l:List (Nat × Value)} {w:World}
theorem Kt {A1 A2:Option Addr} {n1 c1 n2 c2:Nat} (hS:S w) (ho:Pl.nth L i=some o) (hop:o.op = .build 173 #[(0,x),(1,y)]) (hd:o.dst=some d) (hg:Pl.gd L l o.guard=some true) (hx:Pl.dK l x=some (.slice A1 n1 c1)) (hy:Pl.dK l y=some (.slice A2 n2 c2))
  (h:Pl.fF Tryz.prog L S K r ((d,.agg #[.slice A1 n1 c1,.slice A2 n2 c2])::l) w):Pl.fF Tryz.prog L S K ((k,i,m)::r) l w :=
 Pl.fO hS ho hd hg (fun ρ hρ X _=>by
  unfold execOp;rw [hop]
  refine Pl.dI _ X ?_
  have e1:=hρ.dK hx
  have e2:=hρ.dK hy
  simp only [List.map_toArray,List.map_cons,List.map_nil,e1,e2]
  go_simp) h
end
structure Rs (J:List Nat→List Nat→Nat × Nat→World→Prop) (a b Na Nb Ne Ng:Nat) (fe fg:Value) (Bs:List Nat) (w:World) (ql:List Nat) (pr:Nat × Nat) (P Q:Nat) (vp vq:Value) (X:World):Prop where
 ka:Cb X Na 24 [vp]
 kb:Cb X Nb 24 [vq]
 up:Un X vp P
 uq:Un X vq Q
 ke:Cb X Ne 177 [fe]
 kg:Cb X Ng 180 [fg]
 j:J ql ql pr X
 told:quo a b=ql++quo P Q
 gcd:Nat.gcd P Q=Nat.gcd a b
 sp:Sn P 70
 sq:Sn Q 70
 sz:w.heap.size≤X.heap.size
theorem Rs.keep {J:List Nat→List Nat→Nat × Nat→World→Prop} {a b Na Nb Ne Ng:Nat} {fe fg:Value} {Bs:List Nat} {w:World} {ql:List Nat} {pr:Nat × Nat} {P Q:Nat} {vp vq:Value} {X Y:World} (h:Rs J a b Na Nb Ne Ng fe fg Bs w ql pr P Q vp vq X)
  (hI:∀ ql pl pr X Y Cs,J ql pl pr X→Xt Cs X Y→(∀ k∈Cs,(w.heap.size≤k∧NR X k)∨k=Na∨k=Nb)→J ql pl pr Y) (hlt:Na<w.heap.size∧Nb<w.heap.size∧Ne<w.heap.size∧Ng<w.heap.size) {Cs:List Nat} (hX:Xt Cs X Y) (hC:∀ k∈Cs,w.heap.size≤k∧NR X k) :
  Rs J a b Na Nb Ne Ng fe fg Bs w ql pr P Q vp vq Y:=by
 have n:∀ N,N<w.heap.size→N∉Cs:=fun N hN hc=>by have:=(hC N hc).1;omega
 exact ⟨hX.cb h.ka (n _ hlt.1),hX.cb h.kb (n _ hlt.2.1),Un.kp h.up hX.kp,Un.kp h.uq hX.kp,hX.cb h.ke (n _ hlt.2.2.1),hX.cb h.kg (n _ hlt.2.2.2),hI _ _ _ _ _ _ h.j hX fun k hk=>.inl (hC k hk),h.told,h.gcd,h.sp,h.sq,Nat.le_trans h.sz hX.kp.1⟩
theorem Cb.func2 {w:World} {N:Nat} {T:TypeId} {f:Fn} {a b:Array Value} (h:Cb w N T [.func f a b]):(Instr.loadAt 180 (.pointer (some ⟨N,0,none⟩))).run Tryz.prog w = .ok (.func f a b) w:=by
 have hc:=h.cell
 clear h
 go_simp
theorem YO {P Q:Nat} (h:(0:Int)≤bN P Q):Q≤P:=by
 rcases Nat.lt_or_ge P Q with h1 | h1
 · have h2:=Ra (P:Int) (Q:Int)
   rw [← h2,Int.sign_eq_neg_one_of_neg (by omega)] at h
   omega
 · exact h1
theorem Ku (w:World) (va vb:Value) (a b:Nat) (l:List Nat) (ev:Bool) (u0 u1 v0 v1 P Q:Nat) (tl:Tl a b l ev u0 u1 v0 v1 P Q) (hbd:u0<4294967296∧u1<4294967296∧v0<4294967296∧v1<4294967296) (ha:Un w va a) (hb:Un w vb b) (hla:Sn a 900000) (hlb:Sn b 900000) :
  Calls Tryz.prog 220 #[JS u0 u1 v0 v1 ev,va,vb] w fun e w'=>∃ z1 z2,e = .returned (.tuple #[z1,z2])∧Un w' z1 P∧Un w' z2 Q∧Ext w w':=by
 have hP:=tl.hP
 have hQ:=tl.hQ
 cases ev
 · simp only [DX,Mj,Bool.not_false,if_true,Bool.false_eq_true,if_false] at hP hQ
   have h1:u0*a≤v0*b:=by
    have:(u0:Int)*a≤v0*b:=by omega
    exact_mod_cast this
   have h2:v1*b≤u1*a:=by
    have:(v1:Int)*b≤u1*a:=by omega
    exact_mod_cast this
   have e1:v0*b-u0*a=P:=by
    have:((v0*b-u0*a:Nat):Int)=P:=by rw [Int.natCast_sub h1,Int.natCast_mul,Int.natCast_mul];omega
    exact_mod_cast this
   have e2:u1*a-v1*b=Q:=by
    have:((u1*a-v1*b:Nat):Int)=Q:=by rw [Int.natCast_sub h2,Int.natCast_mul,Int.natCast_mul];omega
    exact_mod_cast this
   have:=Ou w va vb a b u0 u1 v0 v1 ha hb hla hlb hbd h1 h2
   rw [e1,e2] at this
   exact this
 · simp only [DX,Mj,Bool.not_true,if_true,Bool.false_eq_true,if_false] at hP hQ
   have h1:v0*b≤u0*a:=by
    have:(v0:Int)*b≤u0*a:=by omega
    exact_mod_cast this
   have h2:u1*a≤v1*b:=by
    have:(u1:Int)*a≤v1*b:=by omega
    exact_mod_cast this
   have e1:u0*a-v0*b=P:=by
    have:((u0*a-v0*b:Nat):Int)=P:=by rw [Int.natCast_sub h1,Int.natCast_mul,Int.natCast_mul];omega
    exact_mod_cast this
   have e2:v1*b-u1*a=Q:=by
    have:((v1*b-u1*a:Nat):Int)=Q:=by rw [Int.natCast_sub h2,Int.natCast_mul,Int.natCast_mul];omega
    exact_mod_cast this
   have:=Kv w va vb a b u0 u1 v0 v1 ha hb hla hlb hbd h1 h2
   rw [e1,e2] at this
   exact this
theorem Pl.IK {n:Nat} {l:List (Nat × Value)} {w:World} {fn:Func} {R:Ending→World→Prop} {id id2:Nat} {cs cs1 cs2 cs3:List Code} {N:Act→World→Prop} (hr:fn.results=#[]) (h:R (.returned (.tuple #[])) w) :
  Pl.V Tryz.prog (Exit.inBlock id2 (Pl.Ks Tryz.prog (Exit.then N (Pl.Ks Tryz.prog (Exit.inBlock id (Pl.Ks Tryz.prog (bodyPost Tryz.prog fn R) cs)) cs1)) cs2)) n [] (.ret::cs3) l w:=fun a ha=>wp_ret (by
 refine Pl.eD (cs:=cs3) ?_
 show Pl.Ks Tryz.prog (Exit.then N (Pl.Ks Tryz.prog (Exit.inBlock id (Pl.Ks Tryz.prog (bodyPost Tryz.prog fn R) cs)) cs1)) cs2 .ret a w
 refine Pl.eD ?_
 show Pl.Ks Tryz.prog (Exit.inBlock id (Pl.Ks Tryz.prog (bodyPost Tryz.prog fn R) cs)) cs1 .ret a w
 refine Pl.eD ?_
 show Pl.Ks Tryz.prog (bodyPost Tryz.prog fn R) cs .ret a w
 refine Pl.eD ⟨ha.defers,.tuple #[],?_,h⟩
 unfold results
 rw [hr]
 simp)
theorem FM (w:World) (a b:Nat) (va vb:Value) (Na Nb Ne Ng:Nat) (ef:FuncId) (tL:List Value) (af:FuncId) (zn:List Value) (lp:Nat) (Bs:List Nat) (J:List Nat→List Nat→Nat × Nat→World→Prop) (Jx:World→Prop)
  (kna:Cb w Na 24 [va]) (knb:Cb w Nb 24 [vb]) (kne:Cb w Ne 177 [.func (.func ef) #[] tL.toArray]) (kng:Cb w Ng 180 [.func (.func af) #[] zn.toArray])
  (Ov:Na<Nb∧Nb<Ne∧Ne<Ng) (Es:∀ k∈Bs,k<w.heap.size∧k≠Na∧k≠Nb∧k≠Ne∧k≠Ng) (ha:Un w va a) (hb:Un w vb b) (hla:Sn a 70) (hlb:Sn b 70) (h0:J [] [] (a,b) w)
  (hI:∀ ql pl pr X Y Cs,J ql pl pr X→Xt Cs X Y→(∀ k∈Cs,(w.heap.size≤k∧NR X k)∨k=Na∨k=Nb)→J ql pl pr Y)
  (een:∀ (u:Array Value) X,(callFunc ef u).run Tryz.prog X = .ok (.enter ef u) X) (aen:∀ (u:Array Value) X,(callFunc af u).run Tryz.prog X = .ok (.enter af u) X)
  (Et:∀ (ql pl:List Nat) (pr:Nat × Nat) (q:Nat) (v:Value) (X:World),J ql pl pr X→(∃ rest,quo a b=(ql++[q])++rest)→Sn q 70→Un X v q→Calls Tryz.prog ef ([]++([v]++tL)).toArray X fun e X'=>e = .returned (.tuple #[])∧J (ql++[q]) pl pr X'∧Xc w.heap.size Bs X X')
  (zo:∀ (pl l:List Nat) (pr:Nat × Nat) (f:FuncId) (fs:List Value) (n:Int) (X:World),J (pl++l) pl pr X→(∃ rest,quo a b=(pl++l)++rest)→(∀ Y,Ext X Y→(∀ (u:Array Value) X,(callFunc f u).run Tryz.prog X = .ok (.enter f u) X)∧∀ vx vy x y,Un Y vx x→Un Y vy y→Sn x 78→Sn y 78→Calls Tryz.prog f (fs++([vx,vy]++[])).toArray Y fun e w'=>∃ a b,e = .returned (.tuple #[a,b])∧Un w' a (cs l x y).1∧Un w' b (cs l x y).2∧Ext Y w')→n=((l.length:Nat):Int) →
   Calls Tryz.prog af ([]++([Value.func (.func f) fs.toArray #[],.int .i64 n]++zn)).toArray X fun e X'=>e = .returned (.tuple #[])∧J (pl++l) (pl++l) pr X'∧Xc w.heap.size Bs X X')
  (FN:∀ (ql:List Nat) (pr:Nat × Nat) (P Q:Nat) (vp vq:Value) (X:World),J ql ql pr X→quo a b=ql++quo P Q→Nat.gcd P Q=Nat.gcd a b→Sn P 70→Sn Q 70→Un X vp P→Un X vq Q→YW lp [.agg #[vp,vq]] X fun e X'=>(e = .returned (.bool true)∧J ql ql (P,Q) X'∧Xc w.heap.size Bs X X')∨(e = .returned (.bool false)∧Jx X')) :
  Calls Tryz.prog 215 #[.func (.yield lp) #[] #[],.pointer (some ⟨Nb,0,none⟩),.pointer (some ⟨Na,0,none⟩),.pointer (some ⟨Ne,0,none⟩),.pointer (some ⟨Ng,0,none⟩)] w fun e w'=>e = .returned (.tuple #[])∧((∃ P,J (quo a b) (quo a b) (P,0) w'∧P=Nat.gcd a b)∨Jx w'):=by
 have hlt:Na<w.heap.size∧Nb<w.heap.size∧Ne<w.heap.size∧Ng<w.heap.size:=⟨kna.lt,knb.lt,kne.lt,kng.lt⟩
 have hR0:Rs J a b Na Nb Ne Ng (.func (.func ef) #[] tL.toArray) (.func (.func af) #[] zn.toArray) Bs w [] (a,b) a b va vb w:=⟨kna,knb,ha,hb,kne,kng,h0,rfl,rfl,hla,hlb,Nat.le_refl _⟩
 refine Pl.dF (n:=69) (vs:=[.func (.yield lp) #[] #[],.pointer (some ⟨Nb,0,none⟩),.pointer (some ⟨Na,0,none⟩),.pointer (some ⟨Ne,0,none⟩),.pointer (some ⟨Ng,0,none⟩)]) Tryz.func215 rfl (by kernel_rfl) (by simp) ?_
 refine Pl.lM [(0,.func (.yield lp) #[] #[]),(1,.pointer (some ⟨Nb,0,none⟩)),(2,.pointer (some ⟨Na,0,none⟩)),(3,.pointer (some ⟨Ne,0,none⟩)),(4,.pointer (some ⟨Ng,0,none⟩))] (Pl.aj rfl (Pl.aj rfl (Pl.aj rfl (Pl.aj rfl (Pl.aj rfl Pl.dQ))))) ?_
 repeat refine Pl.aG ?_
 refine Pl.ko ?_
 repeat refine Pl.aG ?_
 refine Pl.tN (fun m l' w'=>∃ ql pr P Q vp vq,m=Q∧Rs J a b Na Nb Ne Ng (.func (.func ef) #[] tL.toArray) (.func (.func af) #[] zn.toArray) Bs w ql pr P Q vp vq w'∧l'=[(0,.func (.yield lp) #[] #[]),(1,.pointer (some ⟨Nb,0,none⟩)),(2,.pointer (some ⟨Na,0,none⟩)),(3,.pointer (some ⟨Ne,0,none⟩)),(4,.pointer (some ⟨Ng,0,none⟩))]) b ⟨[],(a,b),a,b,va,vb,rfl,hR0,rfl⟩ ?_
 rintro Q _ W ⟨ql,pr,P,_,vp,vq,rfl,hR,rfl⟩
 obtain ⟨Ap,cp,rfl,-⟩:=Un.sh hR.up
 obtain ⟨Aq,cq,rfl,-⟩:=Un.sh hR.uq
 rcases Nat.eq_zero_or_pos Q with uO | uO
 · refine Pl.aab rfl ?_
   refine Pl.aY trivial rfl rfl rfl rfl rfl (Cb.limbs hR.kb) ?_
   refine iY trivial rfl rfl rfl rfl rfl ?_
   refine Pl.bn (v:=.bool false) trivial rfl rfl rfl rfl rfl rfl (fun X=>yc (decide_eq_false (Cv uO)) X) ?_
   refine Pl.aH ?_
   repeat refine Pl.aG ?_
   refine Pl.gX rfl ?_
   repeat refine Pl.aG ?_
   refine Pl.tO ?_
   obtain ⟨rec,hrec,hrs,hrd⟩:=FN ql pr P Q _ _ W hR.j hR.told hR.gcd hR.sp hR.sq hR.up hR.uq
   repeat refine Pl.aG ?_
   refine Pl.Eu (by kernel_rfl) ?_
   refine Pl.DY ?_
   refine Pl.jB trivial rfl ?_
   refine Pl.aH ?_
   refine Pl.DY ?_
   refine Pl.aY trivial rfl rfl rfl rfl rfl (Cb.limbs hR.ka) ?_
   refine Pl.aH ?_
   refine Pl.DY ?_
   refine Pl.aY trivial rfl rfl rfl rfl rfl (Cb.limbs hR.kb) ?_
   refine Pl.aH ?_
   refine Pl.DY ?_
   refine Kt trivial rfl rfl rfl rfl rfl rfl ?_
   refine Pl.aH ?_
   refine Pl.Mk rfl rfl rfl rfl rfl rfl hrec hrs (hrd.mono ?_)
   rintro e W2 h
   have e1:quo a b=ql:=by rw [hR.told,uO,Cw,List.append_nil]
   have e2:P=Nat.gcd a b:=by rw [← hR.gcd,uO,Nat.gcd_zero_right]
   rcases h with ⟨rfl,hj,_⟩ | ⟨rfl,hj⟩
   · exact ⟨_,rfl,Pl.Ml (Pl.qC rfl ⟨rfl,.inl ⟨P,by rw [e1,← uO];exact hj,e2⟩⟩)⟩
   · exact ⟨_,rfl,Pl.Ml (Pl.qC rfl ⟨rfl,.inr hj⟩)⟩
 · have hQn:Q≠0:=Nat.ne_of_gt uO
   refine Pl.aab rfl ?_
   refine Pl.aY trivial rfl rfl rfl rfl rfl (Cb.limbs hR.kb) ?_
   refine iY trivial rfl rfl rfl rfl rfl ?_
   refine Pl.bn (v:=.bool true) trivial rfl rfl rfl rfl rfl rfl (fun X=>yc (decide_eq_true (Mm uO)) X) ?_
   refine Pl.aH ?_
   repeat refine Pl.aG ?_
   refine Pl.jV rfl ?_
   repeat refine Pl.aG ?_
   refine Pl.iT ?_
   repeat refine Pl.aG ?_
   refine Pl.ko ?_
   obtain ⟨rec,hrec,hrs,hrd⟩:=FN ql pr P Q _ _ W hR.j hR.told hR.gcd hR.sp hR.sq hR.up hR.uq
   repeat refine Pl.aG ?_
   refine Pl.Eu (by kernel_rfl) ?_
   refine Pl.DY ?_
   refine Pl.jB trivial rfl ?_
   refine Pl.aH ?_
   refine Pl.DY ?_
   refine Pl.aY trivial rfl rfl rfl rfl rfl (Cb.limbs hR.ka) ?_
   refine Pl.aH ?_
   refine Pl.DY ?_
   refine Pl.aY trivial rfl rfl rfl rfl rfl (Cb.limbs hR.kb) ?_
   refine Pl.aH ?_
   refine Pl.DY ?_
   refine Kt trivial rfl rfl rfl rfl rfl rfl ?_
   refine Pl.aH ?_
   refine Pl.Mk rfl rfl rfl rfl rfl rfl hrec hrs (hrd.mono ?_)
   rintro e W2 (⟨rfl,hj2,hX2⟩ | ⟨rfl,hj2⟩)
   rotate_left
   · refine ⟨_,rfl,Pl.DY ?_⟩
     refine Pl.IL (v:=.bool true) trivial rfl rfl rfl rfl rfl (fun X=>by go_simp) ?_
     refine Pl.aH (Pl.Ml ?_)
     repeat refine Pl.aG ?_
     refine Pl.jV rfl ?_
     exact Pl.IK rfl ⟨rfl,.inr hj2⟩
   refine ⟨_,rfl,Pl.DY ?_⟩
   refine Pl.IL (v:=.bool false) trivial rfl rfl rfl rfl rfl (fun X=>by go_simp) ?_
   refine Pl.aH (Pl.Ml ?_)
   repeat refine Pl.aG ?_
   refine Pl.gX rfl ?_
   repeat refine Pl.aG ?_
   refine Pl.iT ?_
   have nb:∀ N,N=Na∨N=Nb∨N=Ne∨N=Ng→N∉Bs:=fun N hN hb=>by have:=Es N hb;omega
   have hR2:Rs J a b Na Nb Ne Ng (.func (.func ef) #[] tL.toArray) (.func (.func af) #[] zn.toArray) Bs w ql (P,Q) P Q (.slice Ap (limbs P).length cp) (.slice Aq (limbs Q).length cq) W2:=⟨hX2.cb hR.ka (nb _ (by omega)) (.inl (by omega)),hX2.cb hR.kb (nb _ (by omega)) (.inl (by omega)),Un.kp hR.up hX2.kp,Un.kp hR.uq hX2.kp,hX2.cb hR.ke (nb _ (by omega)) (.inl (by omega)),hX2.cb hR.kg (nb _ (by omega)) (.inl (by omega)),hj2,hR.told,hR.gcd,hR.sp,hR.sq,Nat.le_trans hR.sz hX2.kp.1⟩
   clear hR hrec hrs hrd hj2 hX2
   obtain ⟨b3,hb3⟩:∃ b3,decide ((2:Int)<((limbs P).length:Int))=b3:=⟨_,rfl⟩
   cases b3
   · refine Pl.aab rfl ?_
     refine Pl.aY trivial rfl rfl rfl rfl rfl (Cb.limbs hR2.ka) ?_
     refine iY trivial rfl rfl rfl rfl rfl ?_
     refine Pl.bn (v:=.bool false) trivial rfl rfl rfl rfl rfl rfl (fun X=>yc (by rw [hb3]) X) ?_
     refine Pl.jB trivial rfl ?_
     refine Pl.aH ?_
     repeat refine Pl.aG ?_
     refine Pl.Cx (fun l' w'=>Rs J a b Na Nb Ne Ng (.func (.func ef) #[] tL.toArray) (.func (.func af) #[] zn.toArray) Bs w ql (P,Q) P Q (.slice Ap (limbs P).length cp) (.slice Aq (limbs Q).length cq) w'∧l'=[(0,.func (.yield lp) #[] #[]),(1,.pointer (some ⟨Nb,0,none⟩)),(2,.pointer (some ⟨Na,0,none⟩)),(3,.pointer (some ⟨Ne,0,none⟩)),(4,.pointer (some ⟨Ng,0,none⟩))]) ?_ (fun key=>?_)
     rotate_left
     · repeat refine Pl.aG ?_
       refine Pl.gX rfl ?_
       repeat refine Pl.aG ?_
       refine Pl.iT ?_
       refine Pl.lM [(0,.func (.yield lp) #[] #[]),(1,.pointer (some ⟨Nb,0,none⟩)),(2,.pointer (some ⟨Na,0,none⟩)),(3,.pointer (some ⟨Ne,0,none⟩)),(4,.pointer (some ⟨Ng,0,none⟩))] (Pl.aj rfl (Pl.aj rfl (Pl.aj rfl (Pl.aj rfl (Pl.aj rfl Pl.dQ))))) ?_
       exact key _ _ ⟨hR2,rfl⟩
     rintro l' W ⟨hR,rfl⟩
     refine Pl.aab rfl ?_
     refine Pl.aY trivial rfl rfl rfl rfl rfl (Cb.limbs hR.ka) ?_
     refine Pl.aY trivial rfl rfl rfl rfl rfl (Cb.limbs hR.kb) ?_
     refine Pl.bX rfl rfl rfl rfl rfl (Pl.en Tryz.func143) ?_
     refine Calls.mono (sH _ _ _ P Q _ _ hR.up hR.uq (hR.sp.le (by decide)) (hR.sq.le (by decide)) hQn rfl rfl) ?_
     rintro e W4 ⟨⟨v1,v2,rfl,hq1,hr1⟩,hB4⟩
     refine ⟨_,rfl,trivial,?_⟩
     refine Pl.jB trivial rfl ?_
     refine Pl.aH ?_
     have qD:=hR.keep hI hlt (Xt.ext (Bs:=[]) hB4) (by simp)
     have htold:quo a b=(ql++[P/Q])++quo Q (P%Q):=by rw [hR.told,uQ hQn,List.append_assoc];rfl
     have IM:Sn (P/Q) 70:=hR.sp.div
     refine Pl.aab rfl ?_
     refine Pl.aY trivial rfl rfl rfl rfl rfl (Cb.func qD.ke) ?_
     refine Pl.jB trivial rfl ?_
     refine Pl.gY rfl rfl rfl rfl rfl rfl een ?_
     refine Calls.mono (Et ql ql (P,Q) (P/Q) v1 W4 qD.j ⟨_,htold⟩ IM hq1) ?_
     rintro e W5 ⟨rfl,hj5,DW⟩
     refine ⟨_,rfl,trivial,?_⟩
     refine Pl.aH ?_
     have nb:∀ N,N=Na∨N=Nb∨N=Ne∨N=Ng→N∉Bs:=fun N hN hb=>by have:=Es N hb;omega
     have kg5:=DW.cb qD.kg (nb _ (by omega)) (.inl (by omega))
     have hq5:=Un.kp hq1 DW.kp
     obtain ⟨Av,cv,rfl,-⟩:=Un.sh hq1
     refine Pl.aab rfl ?_
     refine Pl.aY trivial rfl rfl rfl rfl rfl (Cb.func2 kg5) ?_
     refine Pl.jB trivial rfl ?_
     refine Pl.nZ trivial rfl rfl rfl rfl rfl rfl ?_
     refine Pl.gY rfl rfl rfl rfl rfl rfl aen ?_
     refine Calls.mono (zo ql [P/Q] (P,Q) 221 [.slice Av (limbs (P/Q)).length cv] 1 W5 hj5 ⟨_,htold⟩ (fun Y hY=>⟨fun u X=>Pl.enters Tryz.func221 (by kernel_rfl) rfl u X,fun vx vy x y hx hy hlx U2=>II.single hq5 (IM.le (by decide)) Y vx vy x y hY hx hy hlx U2⟩) rfl) ?_
     rintro e W6 ⟨rfl,YP,zW⟩
     refine ⟨_,rfl,trivial,?_⟩
     refine Pl.aH ?_
     have nO:=DW.trans zW
     have Rb:=nO.cb qD.ka (nb _ (by omega)) (.inl (by omega))
     have WN:=nO.cb qD.kb (nb _ (by omega)) (.inl (by omega))
     have Z5:=nO.cb qD.ke (nb _ (by omega)) (.inl (by omega))
     have kg6:=nO.cb qD.kg (nb _ (by omega)) (.inl (by omega))
     have up6:=Un.kp qD.up nO.kp
     have uq6:=Un.kp qD.uq nO.kp
     have hr6:=Un.kp hr1 nO.kp
     have Ty:=Nat.le_trans qD.sz nO.kp.1
     obtain ⟨Ar,cr,rfl,-⟩:=Un.sh hr1
     refine Pl.aab rfl ?_
     refine Pl.aY trivial rfl rfl rfl rfl rfl (Cb.limbs WN) ?_
     refine Pl.jB trivial rfl ?_
     refine Pl.eu rfl rfl rfl rfl rfl rfl (Cb.jm Rb Aq (limbs Q).length cq) trivial ?_
     have s7:Xt [Na] W6 (W6.setCell ⟨Na,0,none⟩ (.slice Aq (limbs Q).length cq)):=Xt.set Rb (gG _ _ _) (by simp) 0 _
     have ka7:=Cb.set Rb 0 (.slice Aq (limbs Q).length cq)
     have Rc:=s7.cb WN (by simp;omega)
     have ke7:=s7.cb Z5 (by simp;omega)
     have kg7:=s7.cb kg6 (by simp;omega)
     have hj7:=hI _ _ _ _ _ _ YP s7 (by simp)
     have Tz:=Nat.le_trans Ty s7.kp.1
     have kp7:=s7.kp
     generalize W6.setCell ⟨Na,0,none⟩ (.slice Aq (limbs Q).length cq)=W7 at *
     refine Pl.eu rfl rfl rfl rfl rfl rfl (Cb.jm Rc Ar (limbs (P%Q)).length cr) trivial ?_
     have s8:Xt [Nb] W7 (W7.setCell ⟨Nb,0,none⟩ (.slice Ar (limbs (P%Q)).length cr)):=Xt.set Rc (gG _ _ _) (by simp) 0 _
     have WO:=Cb.set Rc 0 (.slice Ar (limbs (P%Q)).length cr)
     have WQ:=s8.cb ka7 (by simp;omega)
     have WR:=s8.cb ke7 (by simp;omega)
     have WS:=s8.cb kg7 (by simp;omega)
     have U4:=hI _ _ _ _ _ _ hj7 s8 (by simp)
     have U5:=Nat.le_trans Tz s8.kp.1
     have WT:=kp7.trans s8.kp
     generalize W7.setCell ⟨Nb,0,none⟩ (.slice Ar (limbs (P%Q)).length cr)=W8 at *
     refine Pl.aH ?_
     have YQ:Rs J a b Na Nb Ne Ng (.func (.func ef) #[] tL.toArray) (.func (.func af) #[] zn.toArray) Bs w (ql++[P/Q]) (P,Q) Q (P%Q) (.slice Aq (limbs Q).length cq) (.slice Ar (limbs (P%Q)).length cr) W8:=⟨WQ,WO,Un.kp uq6 WT,Un.kp hr6 WT,WR,WS,U4,htold,(tQ P Q).trans qD.gcd,qD.sq,qD.sq.mod hQn,U5⟩
     refine Pl.iU ?_
     exact Pl.nD [(0,.func (.yield lp) #[] #[]),(1,.pointer (some ⟨Nb,0,none⟩)),(2,.pointer (some ⟨Na,0,none⟩)),(3,.pointer (some ⟨Ne,0,none⟩)),(4,.pointer (some ⟨Ng,0,none⟩))] (Pl.aj rfl (Pl.aj rfl (Pl.aj rfl (Pl.aj rfl (Pl.aj rfl Pl.dQ))))) (Nat.mod_lt P uO) ⟨_,_,_,_,_,_,rfl,YQ,rfl⟩
   · by_cases hc:(0:Int)≤bN P Q
     · refine Pl.aab rfl ?_
       refine Pl.aY trivial rfl rfl rfl rfl rfl (Cb.limbs hR2.ka) ?_
       refine iY trivial rfl rfl rfl rfl rfl ?_
       refine Pl.bn (v:=.bool true) trivial rfl rfl rfl rfl rfl rfl (fun X=>yc (by rw [hb3]) X) ?_
       refine Pl.jB trivial rfl ?_
       refine Pl.aY trivial rfl rfl rfl rfl rfl (Cb.limbs hR2.ka) ?_
       refine Pl.aY trivial rfl rfl rfl rfl rfl (Cb.limbs hR2.kb) ?_
       refine Pl.bX rfl rfl rfl rfl rfl (Pl.en Tryz.func44) ?_
       refine Calls.mono (jv _ _ _ P Q hR2.up hR2.uq _ rfl) ?_
       rintro e W3 ⟨rfl,hB3⟩
       refine ⟨_,rfl,trivial,?_⟩
       refine Pl.bn (v:=.bool true) trivial rfl rfl rfl rfl rfl rfl (fun X=>Re (decide_eq_true hc) X) ?_
       refine Pl.jB trivial rfl ?_
       refine Pl.aH ?_
       have hR3:=hR2.keep hI hlt (Xt.ext (Bs:=[]) hB3) (by simp)
       repeat refine Pl.aG ?_
       refine Pl.Cx (fun l' w'=>Rs J a b Na Nb Ne Ng (.func (.func ef) #[] tL.toArray) (.func (.func af) #[] zn.toArray) Bs w ql (P,Q) P Q (.slice Ap (limbs P).length cp) (.slice Aq (limbs Q).length cq) w'∧l'=[(0,.func (.yield lp) #[] #[]),(1,.pointer (some ⟨Nb,0,none⟩)),(2,.pointer (some ⟨Na,0,none⟩)),(3,.pointer (some ⟨Ne,0,none⟩)),(4,.pointer (some ⟨Ng,0,none⟩))]) ?_ (fun key=>?_)
       rotate_left
       · repeat refine Pl.aG ?_
         refine Pl.jV rfl ?_
         refine Pl.aab rfl ?_
         refine wK rfl rfl rfl rfl (z:=.int .i64 0) (by kernel_rfl) (fun _ _=>trivial) ?_
         intro Nn W4 hB4 hNn Z6
         replace Z6:Cb W4 Nn 3 [.int .i64 0]:=Z6
         refine Pl.eu rfl rfl rfl rfl rfl rfl (Cb.IP Z6 0) trivial ?_
         have s5:Xt [Nn] W4 (W4.setCell ⟨Nn,0,none⟩ (.int .i64 0)):=Xt.set Z6 (zZ _) (by simp) 0 _
         have kn5:=Cb.set Z6 0 (.int .i64 0)
         have hwn:w.heap.size≤Nn:=Nat.le_trans hR3.sz hNn
         have yf:=(hR3.keep hI hlt (Xt.ext (Bs:=[]) hB4) (by simp)).keep hI hlt s5 (by simp;exact ⟨hwn,NR.of Z6 (by decide)⟩)
         generalize W4.setCell ⟨Nn,0,none⟩ (.int .i64 0)=W5 at *
         refine Pl.aH ?_
         replace kn5:Cb W5 Nn 3 [.int .i64 ((([]:List Nat).length:Nat):Int)]:=kn5
         have hPQ:Q≤P:=YO hc
         have hlen:3≤(limbs P).length∧(limbs P).length≤1000000:=⟨by rw [decide_eq_true_iff] at hb3;omega,Nat.le_trans yf.sp (by decide)⟩
         repeat refine Pl.aG ?_
         have hgc:∀ (l:List Nat) (q:Nat) (X:World),q<18446744073709551616→(∃ rest,quo P Q=(l++[q])++rest)→(fun l X=>J (ql++l) ql (P,Q) X∧Cb X Nn 3 [.int .i64 ((l.length:Nat):Int)]∧Cb X Ne 177 [(.func (.func ef) #[] tL.toArray)]) l X→Calls Tryz.prog 217 ([]++([Value.int .u64 (q:Int)]++[Value.pointer (some ⟨Ne,0,none⟩),Value.pointer (some ⟨Nn,0,none⟩)])).toArray X fun e X'=>e = .returned (.tuple #[])∧(fun l X=>J (ql++l) ql (P,Q) X∧Cb X Nn 3 [.int .i64 ((l.length:Nat):Int)]∧Cb X Ne 177 [(.func (.func ef) #[] tL.toArray)]) (l++[q]) X'∧Xc w.heap.size (Nn::Bs) X X':=by
          intro l q X hq hpre hIX
          obtain ⟨hjX,hnX,heX⟩:=hIX
          have WU:∃ rest,quo a b=((ql++l)++[q])++rest:=by obtain ⟨rest,hr⟩:=hpre;exact ⟨rest,by rw [yf.told,hr];simp⟩
          have hsh:=Ev (a:=a) (hlb.le (show 70≤1000 by decide))
          have hll:l.length≤64000:=by obtain ⟨rest,hr⟩:=WU;rw [hr] at hsh;simp at hsh;omega
          have hnn:Nn∉Bs:=fun hb=>by have:=Es _ hb;omega
          have hnE:Ne∉Bs:=fun hb=>by have:=Es _ hb;omega
          refine (Kw X q hq ef [] tL Ne Nn _ _ ((l.length:Nat):Int) w.heap.size Bs (fun Y=>J ((ql++l)++[q]) ql (P,Q) Y) (by decide) (by decide) heX hnX (by omega) hnE hnn een (fun Y v hY hv=>Et (ql++l) ql (P,Q) q v Y (hI _ _ _ _ _ [] hjX (Xt.ext hY) (by simp)) WU (Sn.of (Nat.lt_of_lt_of_le hq (by decide))) hv) (fun Y Z hj hx hnr=>hI _ _ _ _ _ _ hj hx (by simp;exact .inl ⟨hwn,hnr⟩))).mono fun e X' hh=>?_
          obtain ⟨he,hj,hn,hx⟩:=hh
          refine ⟨he,⟨by rw [← List.append_assoc];exact hj,?_,hx.cb heX (by simp;exact ⟨by omega,hnE⟩) (.inl (by omega))⟩,hx⟩
          rw [List.length_append,List.length_singleton,Int.natCast_add];exact hn
         refine Pl.aB (by kernel_rfl) ?_
         refine Pl.aY trivial rfl rfl rfl rfl rfl (Cb.limbs yf.ka) ?_
         refine Pl.aY trivial rfl rfl rfl rfl rfl (Cb.limbs yf.kb) ?_
         refine Pl.nZ trivial rfl rfl rfl rfl rfl rfl ?_
         refine Pl.bX rfl rfl rfl rfl rfl (Pl.en Tryz.func216) ?_
         refine Calls.mono (FO W5 _ _ P Q yf.up yf.uq hlen hPQ (yf.sq.le (by decide)) 217 [.pointer (some ⟨Ne,0,none⟩),.pointer (some ⟨Nn,0,none⟩)] w.heap.size (Nn::Bs) (by have:=kn5.lt;have hs:=yf.sz;intro k hk;rcases List.mem_cons.1 hk with rfl | hk<;>first | exact this | exact Nat.lt_of_lt_of_le (Es k hk).1 hs) (fun l X=>J (ql++l) ql (P,Q) X∧Cb X Nn 3 [.int .i64 ((l.length:Nat):Int)]∧Cb X Ne 177 [(.func (.func ef) #[] tL.toArray)]) (Pl.en Tryz.func217) hgc (by intro l X Y Cs hIX hX hC;have hs:=yf.sz;exact ⟨hI _ _ _ _ _ _ hIX.1 hX (fun k hk=>.inl ⟨Nat.le_trans hs (hC k hk).1,(hC k hk).2⟩),hX.cb hIX.2.1 (fun hk=>by have:=(hC _ hk).1;have:=kn5.lt;omega),hX.cb hIX.2.2 (fun hk=>by have:=(hC _ hk).1;omega)⟩) ⟨by rw [List.append_nil];exact yf.j,kn5,yf.ke⟩) ?_
         rintro e W6 ⟨l,u0,u1,v0,v1,ev,rfl,⟨YP,kn6,Z5⟩,zW,hz,hnz⟩
         refine ⟨_,rfl,trivial,?_⟩
         refine wK rfl rfl rfl rfl (z:=JS 0 0 0 0 false) (by kernel_rfl) (fun _ _=>trivial) ?_
         intro Ns W7 hB7 hNs ks7
         refine wL (new:=[.int .u64 (u0:Int),.int .u64 (u1:Int),.int .u64 (v0:Int),.int .u64 (v1:Int),.bool ev]) ks7 rfl rfl rfl rfl rfl rfl (by kernel_rfl) rfl (by simp [Value.oneCell']) trivial ?_
         have hws:w.heap.size≤Ns:=Nat.le_trans (Nat.le_trans yf.sz zW.kp.1) hNs
         have s8:Xt [Ns] W7 (W7.setRow Ns ([.int .u64 (u0:Int),.int .u64 (u1:Int),.int .u64 (v0:Int),.int .u64 (v1:Int),.bool ev]:List Value).toArray):=Xt.put ks7 (cK 0 0 0 0 false) (by simp) _
         have ks8:=Cb.put ks7 ([.int .u64 (u0:Int),.int .u64 (u1:Int),.int .u64 (v0:Int),.int .u64 (v1:Int),.bool ev]:List Value)
         have nsn:Nn≠Ns:=by have:=kn6.lt;omega
         have kn8:=s8.cb (Cb.ext kn6 hB7) (by simp;exact nsn)
         have IQ:Xt [Ns] W6 (W7.setRow Ns ([.int .u64 (u0:Int),.int .u64 (u1:Int),.int .u64 (v0:Int),.int .u64 (v1:Int),.bool ev]:List Value).toArray):=(Xt.ext hB7).trans s8
         have U4:=hI _ _ _ _ _ _ YP IQ (by simp;exact .inl ⟨hws,NR.out hNs⟩)
         generalize W7.setRow Ns ([.int .u64 (u0:Int),.int .u64 (u1:Int),.int .u64 (v0:Int),.int .u64 (v1:Int),.bool ev]:List Value).toArray=W8 at *
         have nb:∀ N,N=Na∨N=Nb∨N=Ne∨N=Ng→N∉Nn::Bs:=fun N hN hb=>by rcases List.mem_cons.1 hb with hb | hb<;>first | omega | (have:=Es N hb;omega)
         have nb2:∀ N,N=Na∨N=Nb∨N=Ne∨N=Ng→N∉[Ns]:=fun N hN hb=>by rw [List.mem_singleton] at hb;omega
         have WQ:=IQ.cb (zW.cb yf.ka (nb _ (by omega)) (.inl (by omega))) (nb2 _ (by omega))
         have WO:=IQ.cb (zW.cb yf.kb (nb _ (by omega)) (.inl (by omega))) (nb2 _ (by omega))
         have WR:=IQ.cb (zW.cb yf.ke (nb _ (by omega)) (.inl (by omega))) (nb2 _ (by omega))
         have WS:=IQ.cb (zW.cb yf.kg (nb _ (by omega)) (.inl (by omega))) (nb2 _ (by omega))
         have up8:=Un.kp (Un.kp yf.up zW.kp) IQ.kp
         have uq8:=Un.kp (Un.kp yf.uq zW.kp) IQ.kp
         have U5:=Nat.le_trans (Nat.le_trans yf.sz zW.kp.1) IQ.kp.1
         refine Pl.aH ?_
         refine Pl.aab rfl ?_
         refine Pl.aY trivial rfl rfl rfl rfl rfl (Cb.load ks8 _ _ rfl rfl (by kernel_rfl)) ?_
         refine Pl.bX rfl rfl rfl rfl rfl (Pl.en Tryz.func218) ?_
         refine Calls.mono (Ky _ u0 u1 v0 v1 ev) ?_
         rintro e W9 ⟨rfl,Rh⟩
         refine ⟨_,rfl,trivial,?_⟩
         refine Pl.IL (v:=.bool (!decide (v0=0))) trivial rfl rfl rfl rfl rfl (fun X=>by go_simp) ?_
         refine Pl.aH ?_
         by_cases hv0:v0=0
         · have hl0:=hz hv0
           subst hl0
           rw [show (!decide (v0=0))=false from by simp [hv0]]
           repeat refine Pl.aG ?_
           refine Pl.gX rfl ?_
           repeat refine Pl.aG ?_
           refine Pl.iT ?_
           refine Pl.lM [(0,.func (.yield lp) #[] #[]),(1,.pointer (some ⟨Nb,0,none⟩)),(2,.pointer (some ⟨Na,0,none⟩)),(3,.pointer (some ⟨Ne,0,none⟩)),(4,.pointer (some ⟨Ng,0,none⟩))] (Pl.aj rfl (Pl.aj rfl (Pl.aj rfl (Pl.aj rfl (Pl.aj rfl Pl.dQ))))) ?_
           refine key _ _ ⟨?_,rfl⟩
           have YQ:Rs J a b Na Nb Ne Ng (.func (.func ef) #[] tL.toArray) (.func (.func af) #[] zn.toArray) Bs w ql (P,Q) P Q (.slice Ap (limbs P).length cp) (.slice Aq (limbs Q).length cq) W8:=⟨WQ,WO,up8,uq8,WR,WS,by rw [List.append_nil] at U4;exact U4,yf.told,yf.gcd,yf.sp,yf.sq,U5⟩
           exact YQ.keep hI hlt (Xt.ext (Bs:=[]) Rh) (by simp)
         · obtain ⟨hln,hbd,P2,Q2,tl⟩:=hnz hv0
           rw [show (!decide (v0=0))=true from by simp [hv0]]
           repeat refine Pl.aG ?_
           refine Pl.jV rfl ?_
           have ks9:=Cb.ext ks8 Rh
           have kn9:=Cb.ext kn8 Rh
           have kg9:=Cb.ext WS Rh
           have ka9:=Cb.ext WQ Rh
           have kb9:=Cb.ext WO Rh
           have ke9:=Cb.ext WR Rh
           have up9:=Un.below up8 Rh
           have uq9:=Un.below uq8 Rh
           have hj9:=hI _ _ _ _ _ [] U4 (Xt.ext Rh) (by simp)
           have sz9:=Nat.le_trans U5 Rh.size
           have htold:quo a b=(ql++l)++quo P2 Q2:=by rw [yf.told,tl.told,List.append_assoc]
           have nbb:∀ N,N=Na∨N=Nb∨N=Ne∨N=Ng∨N=Nn∨N=Ns→N∉Bs:=fun N hN hb=>by have:=Es N hb;omega
           refine Pl.aab rfl ?_
           refine Pl.aY trivial rfl rfl rfl rfl rfl (Cb.func2 kg9) ?_
           refine Pl.aY trivial rfl rfl rfl rfl rfl (Cb.load ks9 _ _ rfl rfl (by kernel_rfl)) ?_
           refine Pl.nZ trivial rfl rfl rfl rfl rfl rfl ?_
           refine Pl.aY trivial rfl rfl rfl rfl rfl (Cb.int kn9) ?_
           refine Pl.gY rfl rfl rfl rfl rfl rfl aen ?_
           refine Calls.mono (zo ql l (P,Q) 219 [JS u0 u1 v0 v1 ev] _ W9 hj9 ⟨_,htold⟩ (fun Y hY=>⟨(II.many tl hbd).1,(II.many tl hbd).2 Y⟩) rfl) ?_
           rintro e W10 ⟨rfl,aev,Cy⟩
           refine ⟨_,rfl,trivial,?_⟩
           refine Pl.aH ?_
           have abU:=Cy.cb ka9 (nbb _ (by omega)) (.inl (by omega))
           have abV:=Cy.cb kb9 (nbb _ (by omega)) (.inl (by omega))
           have aew:=Cy.cb ke9 (nbb _ (by omega)) (.inl (by omega))
           have aex:=Cy.cb kg9 (nbb _ (by omega)) (.inl (by omega))
           have aey:=Cy.cb ks9 (nbb _ (by omega)) (.inr (by decide))
           have aez:=Un.kp up9 Cy.kp
           have aeA:=Un.kp uq9 Cy.kp
           have abW:=Nat.le_trans sz9 Cy.kp.1
           have hrs:=Ku W10 _ _ P Q l ev u0 u1 v0 v1 P2 Q2 tl hbd aez aeA (yf.sp.le (by decide)) (yf.sq.le (by decide))
           refine Pl.aab rfl ?_
           refine Pl.aY trivial rfl rfl rfl rfl rfl (Cb.load aey _ _ rfl rfl (by kernel_rfl)) ?_
           refine Pl.aY trivial rfl rfl rfl rfl rfl (Cb.limbs abU) ?_
           refine Pl.aY trivial rfl rfl rfl rfl rfl (Cb.limbs abV) ?_
           refine Pl.bX rfl rfl rfl rfl rfl (Pl.en Tryz.func220) ?_
           refine Calls.mono (hrs) ?_
           rintro e W11 ⟨z1,z2,rfl,hz1,hz2,Ox⟩
           obtain ⟨A1,c1,rfl,-⟩:=Un.sh hz1
           obtain ⟨A2,c2,rfl,-⟩:=Un.sh hz2
           have YR:=Cb.ext abU Ox
           have aeC:=Cb.ext abV Ox
           have aeD:=Cb.ext aew Ox
           have aeE:=Cb.ext aex Ox
           have aeF:=hI _ _ _ _ _ [] aev (Xt.ext Ox) (by simp)
           have YS:=Nat.le_trans abW Ox.size
           refine ⟨_,rfl,trivial,?_⟩
           refine Pl.jB trivial rfl ?_
           refine Pl.eu rfl rfl rfl rfl rfl rfl (Cb.jm YR A1 (limbs P2).length c1) trivial ?_
           have s12:Xt [Na] W11 (W11.setCell ⟨Na,0,none⟩ (.slice A1 (limbs P2).length c1)):=Xt.set YR (gG _ _ _) (by simp) 0 _
           have aeG:=Cb.set YR 0 (.slice A1 (limbs P2).length c1)
           have YT:=s12.cb aeC (by simp;omega)
           have aeH:=s12.cb aeD (by simp;omega)
           have aeI:=s12.cb aeE (by simp;omega)
           have aeJ:=hI _ _ _ _ _ _ aeF s12 (by simp)
           have Ri:=Nat.le_trans YS s12.kp.1
           have aeK:=s12.kp
           generalize W11.setCell ⟨Na,0,none⟩ (.slice A1 (limbs P2).length c1)=W12 at *
           refine Pl.eu rfl rfl rfl rfl rfl rfl (Cb.jm YT A2 (limbs Q2).length c2) trivial ?_
           have s13:Xt [Nb] W12 (W12.setCell ⟨Nb,0,none⟩ (.slice A2 (limbs Q2).length c2)):=Xt.set YT (gG _ _ _) (by simp) 0 _
           have aeM:=Cb.set YT 0 (.slice A2 (limbs Q2).length c2)
           have aeN:=s13.cb aeG (by simp;omega)
           have aeO:=s13.cb aeH (by simp;omega)
           have aeP:=s13.cb aeI (by simp;omega)
           have aeQ:=hI _ _ _ _ _ _ aeJ s13 (by simp)
           have Rj:=Nat.le_trans Ri s13.kp.1
           have abX:=aeK.trans s13.kp
           generalize W12.setCell ⟨Nb,0,none⟩ (.slice A2 (limbs Q2).length c2)=W13 at *
           refine Pl.aH ?_
           have aeR:Rs J a b Na Nb Ne Ng (.func (.func ef) #[] tL.toArray) (.func (.func af) #[] zn.toArray) Bs w (ql++l) (P,Q) P2 Q2 (.slice A1 (limbs P2).length c1) (.slice A2 (limbs Q2).length c2) W13:=⟨aeN,aeM,Un.kp hz1 abX,Un.kp hz2 abX,aeO,aeP,aeQ,htold,tl.gcd.trans yf.gcd,yf.sp.down (Nat.le_trans tl.ple (by omega)),yf.sq.down tl.qle.1,Rj⟩
           repeat refine Pl.aG ?_
           refine Pl.Cr ?_
           exact Pl.nD [(0,.func (.yield lp) #[] #[]),(1,.pointer (some ⟨Nb,0,none⟩)),(2,.pointer (some ⟨Na,0,none⟩)),(3,.pointer (some ⟨Ne,0,none⟩)),(4,.pointer (some ⟨Ng,0,none⟩))] (Pl.aj rfl (Pl.aj rfl (Pl.aj rfl (Pl.aj rfl (Pl.aj rfl Pl.dQ))))) (tl.qle.2 hln) ⟨_,_,_,_,_,_,rfl,aeR,rfl⟩
       rintro l' W ⟨hR,rfl⟩
       refine Pl.aab rfl ?_
       refine Pl.aY trivial rfl rfl rfl rfl rfl (Cb.limbs hR.ka) ?_
       refine Pl.aY trivial rfl rfl rfl rfl rfl (Cb.limbs hR.kb) ?_
       refine Pl.bX rfl rfl rfl rfl rfl (Pl.en Tryz.func143) ?_
       refine Calls.mono (sH _ _ _ P Q _ _ hR.up hR.uq (hR.sp.le (by decide)) (hR.sq.le (by decide)) hQn rfl rfl) ?_
       rintro e W4 ⟨⟨v1,v2,rfl,hq1,hr1⟩,hB4⟩
       refine ⟨_,rfl,trivial,?_⟩
       refine Pl.jB trivial rfl ?_
       refine Pl.aH ?_
       have qD:=hR.keep hI hlt (Xt.ext (Bs:=[]) hB4) (by simp)
       have htold:quo a b=(ql++[P/Q])++quo Q (P%Q):=by rw [hR.told,uQ hQn,List.append_assoc];rfl
       have IM:Sn (P/Q) 70:=hR.sp.div
       refine Pl.aab rfl ?_
       refine Pl.aY trivial rfl rfl rfl rfl rfl (Cb.func qD.ke) ?_
       refine Pl.jB trivial rfl ?_
       refine Pl.gY rfl rfl rfl rfl rfl rfl een ?_
       refine Calls.mono (Et ql ql (P,Q) (P/Q) v1 W4 qD.j ⟨_,htold⟩ IM hq1) ?_
       rintro e W5 ⟨rfl,hj5,DW⟩
       refine ⟨_,rfl,trivial,?_⟩
       refine Pl.aH ?_
       have nb:∀ N,N=Na∨N=Nb∨N=Ne∨N=Ng→N∉Bs:=fun N hN hb=>by have:=Es N hb;omega
       have kg5:=DW.cb qD.kg (nb _ (by omega)) (.inl (by omega))
       have hq5:=Un.kp hq1 DW.kp
       obtain ⟨Av,cv,rfl,-⟩:=Un.sh hq1
       refine Pl.aab rfl ?_
       refine Pl.aY trivial rfl rfl rfl rfl rfl (Cb.func2 kg5) ?_
       refine Pl.jB trivial rfl ?_
       refine Pl.nZ trivial rfl rfl rfl rfl rfl rfl ?_
       refine Pl.gY rfl rfl rfl rfl rfl rfl aen ?_
       refine Calls.mono (zo ql [P/Q] (P,Q) 221 [.slice Av (limbs (P/Q)).length cv] 1 W5 hj5 ⟨_,htold⟩ (fun Y hY=>⟨fun u X=>Pl.enters Tryz.func221 (by kernel_rfl) rfl u X,fun vx vy x y hx hy hlx U2=>II.single hq5 (IM.le (by decide)) Y vx vy x y hY hx hy hlx U2⟩) rfl) ?_
       rintro e W6 ⟨rfl,YP,zW⟩
       refine ⟨_,rfl,trivial,?_⟩
       refine Pl.aH ?_
       have nO:=DW.trans zW
       have Rb:=nO.cb qD.ka (nb _ (by omega)) (.inl (by omega))
       have WN:=nO.cb qD.kb (nb _ (by omega)) (.inl (by omega))
       have Z5:=nO.cb qD.ke (nb _ (by omega)) (.inl (by omega))
       have kg6:=nO.cb qD.kg (nb _ (by omega)) (.inl (by omega))
       have up6:=Un.kp qD.up nO.kp
       have uq6:=Un.kp qD.uq nO.kp
       have hr6:=Un.kp hr1 nO.kp
       have Ty:=Nat.le_trans qD.sz nO.kp.1
       obtain ⟨Ar,cr,rfl,-⟩:=Un.sh hr1
       refine Pl.aab rfl ?_
       refine Pl.aY trivial rfl rfl rfl rfl rfl (Cb.limbs WN) ?_
       refine Pl.jB trivial rfl ?_
       refine Pl.eu rfl rfl rfl rfl rfl rfl (Cb.jm Rb Aq (limbs Q).length cq) trivial ?_
       have s7:Xt [Na] W6 (W6.setCell ⟨Na,0,none⟩ (.slice Aq (limbs Q).length cq)):=Xt.set Rb (gG _ _ _) (by simp) 0 _
       have ka7:=Cb.set Rb 0 (.slice Aq (limbs Q).length cq)
       have Rc:=s7.cb WN (by simp;omega)
       have ke7:=s7.cb Z5 (by simp;omega)
       have kg7:=s7.cb kg6 (by simp;omega)
       have hj7:=hI _ _ _ _ _ _ YP s7 (by simp)
       have Tz:=Nat.le_trans Ty s7.kp.1
       have kp7:=s7.kp
       generalize W6.setCell ⟨Na,0,none⟩ (.slice Aq (limbs Q).length cq)=W7 at *
       refine Pl.eu rfl rfl rfl rfl rfl rfl (Cb.jm Rc Ar (limbs (P%Q)).length cr) trivial ?_
       have s8:Xt [Nb] W7 (W7.setCell ⟨Nb,0,none⟩ (.slice Ar (limbs (P%Q)).length cr)):=Xt.set Rc (gG _ _ _) (by simp) 0 _
       have WO:=Cb.set Rc 0 (.slice Ar (limbs (P%Q)).length cr)
       have WQ:=s8.cb ka7 (by simp;omega)
       have WR:=s8.cb ke7 (by simp;omega)
       have WS:=s8.cb kg7 (by simp;omega)
       have U4:=hI _ _ _ _ _ _ hj7 s8 (by simp)
       have U5:=Nat.le_trans Tz s8.kp.1
       have WT:=kp7.trans s8.kp
       generalize W7.setCell ⟨Nb,0,none⟩ (.slice Ar (limbs (P%Q)).length cr)=W8 at *
       refine Pl.aH ?_
       have YQ:Rs J a b Na Nb Ne Ng (.func (.func ef) #[] tL.toArray) (.func (.func af) #[] zn.toArray) Bs w (ql++[P/Q]) (P,Q) Q (P%Q) (.slice Aq (limbs Q).length cq) (.slice Ar (limbs (P%Q)).length cr) W8:=⟨WQ,WO,Un.kp uq6 WT,Un.kp hr6 WT,WR,WS,U4,htold,(tQ P Q).trans qD.gcd,qD.sq,qD.sq.mod hQn,U5⟩
       refine Pl.iU ?_
       exact Pl.nD [(0,.func (.yield lp) #[] #[]),(1,.pointer (some ⟨Nb,0,none⟩)),(2,.pointer (some ⟨Na,0,none⟩)),(3,.pointer (some ⟨Ne,0,none⟩)),(4,.pointer (some ⟨Ng,0,none⟩))] (Pl.aj rfl (Pl.aj rfl (Pl.aj rfl (Pl.aj rfl (Pl.aj rfl Pl.dQ))))) (Nat.mod_lt P uO) ⟨_,_,_,_,_,_,rfl,YQ,rfl⟩
     · refine Pl.aab rfl ?_
       refine Pl.aY trivial rfl rfl rfl rfl rfl (Cb.limbs hR2.ka) ?_
       refine iY trivial rfl rfl rfl rfl rfl ?_
       refine Pl.bn (v:=.bool true) trivial rfl rfl rfl rfl rfl rfl (fun X=>yc (by rw [hb3]) X) ?_
       refine Pl.jB trivial rfl ?_
       refine Pl.aY trivial rfl rfl rfl rfl rfl (Cb.limbs hR2.ka) ?_
       refine Pl.aY trivial rfl rfl rfl rfl rfl (Cb.limbs hR2.kb) ?_
       refine Pl.bX rfl rfl rfl rfl rfl (Pl.en Tryz.func44) ?_
       refine Calls.mono (jv _ _ _ P Q hR2.up hR2.uq _ rfl) ?_
       rintro e W3 ⟨rfl,hB3⟩
       refine ⟨_,rfl,trivial,?_⟩
       refine Pl.bn (v:=.bool false) trivial rfl rfl rfl rfl rfl rfl (fun X=>Re (decide_eq_false hc) X) ?_
       refine Pl.jB trivial rfl ?_
       refine Pl.aH ?_
       have hR3:=hR2.keep hI hlt (Xt.ext (Bs:=[]) hB3) (by simp)
       repeat refine Pl.aG ?_
       refine Pl.Cx (fun l' w'=>Rs J a b Na Nb Ne Ng (.func (.func ef) #[] tL.toArray) (.func (.func af) #[] zn.toArray) Bs w ql (P,Q) P Q (.slice Ap (limbs P).length cp) (.slice Aq (limbs Q).length cq) w'∧l'=[(0,.func (.yield lp) #[] #[]),(1,.pointer (some ⟨Nb,0,none⟩)),(2,.pointer (some ⟨Na,0,none⟩)),(3,.pointer (some ⟨Ne,0,none⟩)),(4,.pointer (some ⟨Ng,0,none⟩))]) ?_ (fun key=>?_)
       rotate_left
       · repeat refine Pl.aG ?_
         refine Pl.gX rfl ?_
         repeat refine Pl.aG ?_
         refine Pl.iT ?_
         refine Pl.lM [(0,.func (.yield lp) #[] #[]),(1,.pointer (some ⟨Nb,0,none⟩)),(2,.pointer (some ⟨Na,0,none⟩)),(3,.pointer (some ⟨Ne,0,none⟩)),(4,.pointer (some ⟨Ng,0,none⟩))] (Pl.aj rfl (Pl.aj rfl (Pl.aj rfl (Pl.aj rfl (Pl.aj rfl Pl.dQ))))) ?_
         exact key _ _ ⟨hR3,rfl⟩
       rintro l' W ⟨hR,rfl⟩
       refine Pl.aab rfl ?_
       refine Pl.aY trivial rfl rfl rfl rfl rfl (Cb.limbs hR.ka) ?_
       refine Pl.aY trivial rfl rfl rfl rfl rfl (Cb.limbs hR.kb) ?_
       refine Pl.bX rfl rfl rfl rfl rfl (Pl.en Tryz.func143) ?_
       refine Calls.mono (sH _ _ _ P Q _ _ hR.up hR.uq (hR.sp.le (by decide)) (hR.sq.le (by decide)) hQn rfl rfl) ?_
       rintro e W4 ⟨⟨v1,v2,rfl,hq1,hr1⟩,hB4⟩
       refine ⟨_,rfl,trivial,?_⟩
       refine Pl.jB trivial rfl ?_
       refine Pl.aH ?_
       have qD:=hR.keep hI hlt (Xt.ext (Bs:=[]) hB4) (by simp)
       have htold:quo a b=(ql++[P/Q])++quo Q (P%Q):=by rw [hR.told,uQ hQn,List.append_assoc];rfl
       have IM:Sn (P/Q) 70:=hR.sp.div
       refine Pl.aab rfl ?_
       refine Pl.aY trivial rfl rfl rfl rfl rfl (Cb.func qD.ke) ?_
       refine Pl.jB trivial rfl ?_
       refine Pl.gY rfl rfl rfl rfl rfl rfl een ?_
       refine Calls.mono (Et ql ql (P,Q) (P/Q) v1 W4 qD.j ⟨_,htold⟩ IM hq1) ?_
       rintro e W5 ⟨rfl,hj5,DW⟩
       refine ⟨_,rfl,trivial,?_⟩
       refine Pl.aH ?_
       have nb:∀ N,N=Na∨N=Nb∨N=Ne∨N=Ng→N∉Bs:=fun N hN hb=>by have:=Es N hb;omega
       have kg5:=DW.cb qD.kg (nb _ (by omega)) (.inl (by omega))
       have hq5:=Un.kp hq1 DW.kp
       obtain ⟨Av,cv,rfl,-⟩:=Un.sh hq1
       refine Pl.aab rfl ?_
       refine Pl.aY trivial rfl rfl rfl rfl rfl (Cb.func2 kg5) ?_
       refine Pl.jB trivial rfl ?_
       refine Pl.nZ trivial rfl rfl rfl rfl rfl rfl ?_
       refine Pl.gY rfl rfl rfl rfl rfl rfl aen ?_
       refine Calls.mono (zo ql [P/Q] (P,Q) 221 [.slice Av (limbs (P/Q)).length cv] 1 W5 hj5 ⟨_,htold⟩ (fun Y hY=>⟨fun u X=>Pl.enters Tryz.func221 (by kernel_rfl) rfl u X,fun vx vy x y hx hy hlx U2=>II.single hq5 (IM.le (by decide)) Y vx vy x y hY hx hy hlx U2⟩) rfl) ?_
       rintro e W6 ⟨rfl,YP,zW⟩
       refine ⟨_,rfl,trivial,?_⟩
       refine Pl.aH ?_
       have nO:=DW.trans zW
       have Rb:=nO.cb qD.ka (nb _ (by omega)) (.inl (by omega))
       have WN:=nO.cb qD.kb (nb _ (by omega)) (.inl (by omega))
       have Z5:=nO.cb qD.ke (nb _ (by omega)) (.inl (by omega))
       have kg6:=nO.cb qD.kg (nb _ (by omega)) (.inl (by omega))
       have up6:=Un.kp qD.up nO.kp
       have uq6:=Un.kp qD.uq nO.kp
       have hr6:=Un.kp hr1 nO.kp
       have Ty:=Nat.le_trans qD.sz nO.kp.1
       obtain ⟨Ar,cr,rfl,-⟩:=Un.sh hr1
       refine Pl.aab rfl ?_
       refine Pl.aY trivial rfl rfl rfl rfl rfl (Cb.limbs WN) ?_
       refine Pl.jB trivial rfl ?_
       refine Pl.eu rfl rfl rfl rfl rfl rfl (Cb.jm Rb Aq (limbs Q).length cq) trivial ?_
       have s7:Xt [Na] W6 (W6.setCell ⟨Na,0,none⟩ (.slice Aq (limbs Q).length cq)):=Xt.set Rb (gG _ _ _) (by simp) 0 _
       have ka7:=Cb.set Rb 0 (.slice Aq (limbs Q).length cq)
       have Rc:=s7.cb WN (by simp;omega)
       have ke7:=s7.cb Z5 (by simp;omega)
       have kg7:=s7.cb kg6 (by simp;omega)
       have hj7:=hI _ _ _ _ _ _ YP s7 (by simp)
       have Tz:=Nat.le_trans Ty s7.kp.1
       have kp7:=s7.kp
       generalize W6.setCell ⟨Na,0,none⟩ (.slice Aq (limbs Q).length cq)=W7 at *
       refine Pl.eu rfl rfl rfl rfl rfl rfl (Cb.jm Rc Ar (limbs (P%Q)).length cr) trivial ?_
       have s8:Xt [Nb] W7 (W7.setCell ⟨Nb,0,none⟩ (.slice Ar (limbs (P%Q)).length cr)):=Xt.set Rc (gG _ _ _) (by simp) 0 _
       have WO:=Cb.set Rc 0 (.slice Ar (limbs (P%Q)).length cr)
       have WQ:=s8.cb ka7 (by simp;omega)
       have WR:=s8.cb ke7 (by simp;omega)
       have WS:=s8.cb kg7 (by simp;omega)
       have U4:=hI _ _ _ _ _ _ hj7 s8 (by simp)
       have U5:=Nat.le_trans Tz s8.kp.1
       have WT:=kp7.trans s8.kp
       generalize W7.setCell ⟨Nb,0,none⟩ (.slice Ar (limbs (P%Q)).length cr)=W8 at *
       refine Pl.aH ?_
       have YQ:Rs J a b Na Nb Ne Ng (.func (.func ef) #[] tL.toArray) (.func (.func af) #[] zn.toArray) Bs w (ql++[P/Q]) (P,Q) Q (P%Q) (.slice Aq (limbs Q).length cq) (.slice Ar (limbs (P%Q)).length cr) W8:=⟨WQ,WO,Un.kp uq6 WT,Un.kp hr6 WT,WR,WS,U4,htold,(tQ P Q).trans qD.gcd,qD.sq,qD.sq.mod hQn,U5⟩
       refine Pl.iU ?_
       exact Pl.nD [(0,.func (.yield lp) #[] #[]),(1,.pointer (some ⟨Nb,0,none⟩)),(2,.pointer (some ⟨Na,0,none⟩)),(3,.pointer (some ⟨Ne,0,none⟩)),(4,.pointer (some ⟨Ng,0,none⟩))] (Pl.aj rfl (Pl.aj rfl (Pl.aj rfl (Pl.aj rfl (Pl.aj rfl Pl.dQ))))) (Nat.mod_lt P uO) ⟨_,_,_,_,_,_,rfl,YQ,rfl⟩
end Go.Proofs.YtgcieamfidoaoaaGreatDoor
