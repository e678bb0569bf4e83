/- Many of Euclid's steps, guessed by the leading bits of both numbers. -/
import Derived.Test.YtfhcmggpojhegaaGreatDoorBaw
import Derived.Deep.OwnRows

namespace Go.Proofs.YtfhcmggpojhegaaGreatDoor
open Go.RowKit
set_option linter.all false
set_option maxRecDepth 100000
set_option maxHeartbeats 8000000
section
variable {L:List Oper} {S:World→Prop} {K:List (Nat × Value)→World→Prop} {i m d:Nat} {o:Oper} {x y:Operand} {r:List (Bool × Nat × Nat)} {l:List (Nat × Value)} {w:World}
theorem fB {T:TypeId} {z:Value} (ho:Pl.nth L i=some o) (hp:o.op = .alloc T) (hd:o.dst=some d) (hg:o.guard=none) (hz:(Tryz.prog.info? T).map (fun i=>i.zero)=some (some z)) (hS:∀ Y,Ext w Y→S Y)
  (h:∀ N w',Ext w w'→w.heap.size≤N→Cb w' N T z.cells.toList→Pl.dO Tryz.prog L S K r ((d,.pointer (some ⟨N,0,none⟩))::l) w'):Pl.dO Tryz.prog L S K ((false,i,m)::r) l w:=by
 have e1:=(Ext.refl w).alloc (.cells z.cells T)
 refine Pl.sM ho hp hd (by rw [hg];rfl) (Qm w T z true hz) (hS _ e1) (h _ _ e1 (Nat.le_refl _) ?_)
 have:=Cb.new w T z.cells.toList
 simpa using this
theorem iC {N:Nat} {T:TypeId} {cs new:List Value} (hC:Cb w N T cs) (ho:Pl.nth L i=some o) (hp:o.op = .store T x y) (hd:o.dst=none) (hg:o.guard=none) (hx:Pl.dF l x=some (.pointer (some ⟨N,0,none⟩))) (hy:Pl.dF l y=some (.agg new.toArray))
  (hi:(Tryz.prog.info? T).map (·.size)=some new.length) (hl:cs.length=new.length) (h1:∀ v∈new,v.oneCell'=true) (hS:S (w.setRow N new.toArray))
  (h:Pl.dO Tryz.prog L S K r l (w.setRow N new.toArray)):Pl.dO Tryz.prog L S K ((false,i,m)::r) l w :=
 Pl.aW ho hp hd (by rw [hg];rfl) hx hy (hC.store T new hi hl h1) hS h
end
theorem kE {n:Nat} {cs:List Code} {l:List (Nat × Value)} {w:World} {fn:Func} {R:Ending→World→Prop} {t:Tmp} {N:Nat} {T ty:TypeId} {vs:List Value} {d:TypeDesc} (hr:fn.results=#[.cell t ty]) (hv:Pl.look l t=some (.pointer (some ⟨N,0,none⟩)))
  (hC:Cb w N T vs) (hu:Tryz.prog.underlying ty=some d) (hd:d.isRow=true) (hi:(Tryz.prog.info? ty).map (·.size)=some vs.length) (h:R (.returned (.agg vs.toArray)) w):Pl.V Tryz.prog (bodyPost Tryz.prog fn R) n [] (.ret::cs) l w:=Pl.zY fun a ha=>by
 refine ⟨ha.defers,_,?_,h⟩
 unfold results
 rw [hr]
 have e:a.tmps.getD t undef = .pointer (some ⟨N,0,none⟩):=by rw [Array.getD_eq_getD_getElem?,ha.look t _ hv];rfl
 have hl:=hC.load ty d hu hd hi
 simp only [Instr.loadAt,Instr.sureAddr,Sem.run_bind,Sem.run_pure,Result.andThen_ok] at hl
 simp only [List.mapM_toArray,List.mapM_cons,List.mapM_nil,e,asAddr,Sem.run_bind,Sem.run_pure,Result.andThen_ok]
 simp [hl,Sem.run_bind,Result.andThen]
theorem cO (u0 u1 v0 v1:Int) (ev:Bool):∀ c∈[Value.int .u64 u0,.int .u64 u1,.int .u64 v0,.int .u64 v1,.bool ev],gF c:=by
 intro c hc k e
 subst e
 simp at hc
theorem adL (a b:Nat):(quo a b).length≤2*aU b:=by
 induction b using Nat.strongRecOn generalizing a with
 | ind b ih =>
  by_cases h:b=0
  · subst h;simp [lN]
  · have hb:1≤aU b:=by
     have h2:=dW b
     rcases Nat.eq_zero_or_pos (aU b) with h0 | h0
     · rw [h0] at h2;omega
     · exact h0
    rw [nY h,List.length_cons]
    have hm:=Nat.mod_lt a (Nat.pos_of_ne_zero h)
    by_cases h2:a%b=0
    · rw [h2,lN];simp;omega
    · rw [nY h2,List.length_cons]
      have h3:=Nat.mod_lt b (Nat.pos_of_ne_zero h2)
      have h4:=ih (b%(a%b)) (by omega) (a%b)
      have h5:2*(b%(a%b))<b:=by
       have h6:=Nat.div_add_mod b (a%b)
       have h7:1≤b/(a%b):=(Nat.one_le_div_iff (by omega)).2 (by omega)
       have h8:(a%b)*1≤(a%b)*(b/(a%b)):=Nat.mul_le_mul_left _ h7
       omega
      have h9:aU (b%(a%b))+1≤aU b:=by
       have h10:aU (b%(a%b))≤aU b-1:=aT (by
        have h11:=dW b
        have h12:2^aU b=2*2^(aU b-1):=by rw [Nat.mul_comm,← Nat.pow_succ];congr 1;omega
        omega)
       omega
      omega
theorem adM {n K:Nat} (h:Sn n K):aU n≤32*K:=aT (by rw [Nat.pow_mul,show (2:Nat)^32=4294967296 from rfl];exact h.lt)
theorem pM {a b:Nat} (hb:Sn b 1000):(quo a b).length≤64000:=by
 have h1:=adL a b
 have h2:=adM hb
 omega
theorem Gu.VG {A B u1 v1 u2 v2 x y:Nat} {e:Bool} (h:Gu A B e u1 v1 u2 v2 x y) (c1:v2≤y):v1+v2≤A∧x≤A:=by
 obtain ⟨hx,hy,le2,pos,le1,sum,le,grow⟩:=h
 have p1:v2*1≤v2*x:=Nat.mul_le_mul_left _ (by omega)
 have p2:v1*1≤v1*y:=Nat.mul_le_mul_left _ (by omega)
 have p3:1*x≤v2*x:=Nat.mul_le_mul_right _ pos
 omega
theorem Gu.YL {A B u1 v1 u2 v2 x y:Nat} {e:Bool} (h:Gu A B e u1 v1 u2 v2 x y):x≤A∧y≤A∧v2*x≤A:=by
 obtain ⟨hx,hy,le2,pos,le1,sum,le,grow⟩:=h
 have p3:1*x≤v2*x:=Nat.mul_le_mul_right _ pos
 omega
theorem JM {a b A B k u0 u1 u2 v0 v1 v2 he x y:Nat} {ql:List Nat} {ev:Bool} {p:Prop} (hk:(k=0∧ql=[]∧v0=0∧p)∨(k=ql.length+1∧Gh a b A B ql ev u0 u1 u2 v0 v1 v2 he x y)) :
  (v0=0→ql=[])∧(v0≠0→ql≠[]∧(u0<4294967296∧u1<4294967296∧v0<4294967296∧v1<4294967296)∧∃ P Q,Tl a b ql ev u0 u1 v0 v1 P Q):=by
 rcases hk with ⟨_,h2,h3,_⟩ | ⟨_,hg⟩
 · exact ⟨fun _=>h2,fun h=>absurd h3 h⟩
 · exact ⟨fun h=>hg.none.1 h,fun h=>⟨fun e=>h (hg.none.2 e),⟨hg.b0.1,hg.b1.1,hg.b0.2,hg.b1.2⟩,hg.tl⟩⟩
theorem KN (w:World) (va vb:Value) (a b:Nat) (ha:Un w va a) (hb:Un w vb b) (hn:3≤(limbs a).length∧(limbs a).length≤1000000) (hba:b≤a) (hlb:Sn b 1000)
  (f:FuncId) (cap:List Value) (base:Nat) (Bs:List Nat) (Ci:∀ k∈Bs,k<w.heap.size) (I:List Nat→World→Prop)
  (hen:∀ (u:Array Value) X,(callFunc f u).run Tryz.prog X = .ok (.enter f u) X)
  (hcall:∀ (l:List Nat) (q:Nat) (X:World),q<18446744073709551616→(∃ rest,quo a b=(l++[q])++rest)→I l X→Calls Tryz.prog f ([]++([Value.int .u64 (q:Int)]++cap)).toArray X fun e X'=>e = .returned (.tuple #[])∧I (l++[q]) X'∧Xc base Bs X X')
  (hI:∀ l X Y Cs,I l X→Xt Cs X Y→(∀ k∈Cs,w.heap.size≤k∧NR X k)→I l Y) (h0:I [] w) :
  Calls Tryz.prog 119 #[va,vb,.func (.func f) #[] cap.toArray] w fun e w'=>∃ ql u0 u1 v0 v1 ev,e = .returned (Pf u0 u1 v0 v1 ev)∧I ql w'∧Xc base Bs w w'∧(v0=0→ql=[])∧(v0≠0→ql≠[]∧(u0<4294967296∧u1<4294967296∧v0<4294967296∧v1<4294967296)∧∃ P Q,Tl a b ql ev u0 u1 v0 v1 P Q):=by
 obtain ⟨A,hA⟩:∃ A,a/2^(32*((limbs a).length-3)+(32-(32-aU (lb (limbs a) ((limbs a).length-1)))))=A:=⟨_,rfl⟩
 obtain ⟨B,hB⟩:∃ B,b/2^(32*((limbs a).length-3)+(32-(32-aU (lb (limbs a) ((limbs a).length-1)))))=B:=⟨_,rfl⟩
 have hlead:=fun (X:World) (h:Ext w X)=>Qs X va vb a b (Un.below ha h) (Un.below hb h) hn hba
 have hfit:=Cv hn.1 rfl (Nat.le_refl a)
 have hBA:B≤A:=by rw [← hA,← hB];exact Nat.div_le_div_right hba
 have hda:=Nat.div_add_mod a (2^(32*((limbs a).length-3)+(32-(32-aU (lb (limbs a) ((limbs a).length-1))))))
 have hdb:=Nat.div_add_mod b (2^(32*((limbs a).length-3)+(32-(32-aU (lb (limbs a) ((limbs a).length-1))))))
 have hma:=Nat.mod_lt a (Nat.two_pow_pos (32*((limbs a).length-3)+(32-(32-aU (lb (limbs a) ((limbs a).length-1))))))
 have hmb:=Nat.mod_lt b (Nat.two_pow_pos (32*((limbs a).length-3)+(32-(32-aU (lb (limbs a) ((limbs a).length-1))))))
 rw [hA] at hlead hfit hda
 rw [hB] at hlead hdb
 generalize 2^(32*((limbs a).length-3)+(32-(32-aU (lb (limbs a) ((limbs a).length-1)))))=T at *
 rw [Nat.mul_comm T] at hda hdb
 generalize a%T=a0 at *
 generalize b%T=b0 at *
 have SQ:=pM (a:=a) hlb
 refine Pl.aZ (n:=78) (vs:=[va,vb,.func (.func f) #[] cap.toArray]) Tryz.func119 rfl (by kernel_rfl) (by simp) ?_
 repeat refine Pl.ay ?_
 refine Pl.ak (by kernel_rfl) ?_
 refine fB rfl rfl rfl rfl (z:=Pf 0 0 0 0 false) (by kernel_rfl) (fun _ _=>trivial) ?_
 intro Nr w1 hB1 hNr Tn
 refine Pl.aj ?_
 repeat refine Pl.ay ?_
 refine Pl.ak (by kernel_rfl) ?_
 refine Pl.aA trivial rfl rfl rfl rfl rfl ?_
 refine Pl.aA trivial rfl rfl rfl rfl rfl ?_
 refine Pl.az rfl rfl rfl rfl rfl (fun u X=>Pl.enters Tryz.func173 (by kernel_rfl) rfl u X) ?_
 refine Calls.mono (hlead w1 hB1) ?_
 rintro e w2 ⟨rfl,hB2⟩
 refine ⟨_,rfl,trivial,?_⟩
 refine Pl.aA trivial rfl rfl rfl rfl rfl ?_
 refine Pl.aL trivial rfl rfl rfl rfl rfl rfl ?_
 refine Pl.aL trivial rfl rfl rfl rfl rfl rfl ?_
 refine Pl.aF trivial rfl rfl rfl rfl rfl ?_
 refine Pl.aF trivial rfl rfl rfl rfl rfl ?_
 refine Pl.aj ?_
 repeat refine Pl.ay ?_
 refine Pl.ak (by kernel_rfl) ?_
 refine Pl.dB (v:=Pf 0 0 0 0 false) trivial rfl rfl rfl (fun ρ hρ X _=>by simp [go_sem]) ?_
 refine fB rfl rfl rfl rfl (z:=Pf 0 0 0 0 false) (by kernel_rfl) (fun _ _=>trivial) ?_
 intro Ns w3 hB3 hNs Mx
 refine iC (new:=[.int .u64 0,.int .u64 0,.int .u64 0,.int .u64 0,.bool false]) Mx rfl rfl rfl rfl rfl rfl (by kernel_rfl) rfl (by simp [Value.oneCell']) trivial ?_
 have ks4:=Cb.put Mx [.int .u64 0,.int .u64 0,.int .u64 0,.int .u64 0,.bool false]
 have kr4:=Cb.other (Cb.ext (Cb.ext Tn hB2) hB3) Ns ([.int .u64 0,.int .u64 0,.int .u64 0,.int .u64 0,.bool false]:List Value).toArray (by have:=(Cb.ext Tn hB2).lt;omega)
 have hX4:Xc base (Ns::Bs) w (w3.setRow Ns ([.int .u64 0,.int .u64 0,.int .u64 0,.int .u64 0,.bool false]:List Value).toArray):=Xc.xt <| (Xt.ext (hB1.below (hB2.below hB3))).trans (Xt.put Mx (cO 0 0 0 0 false) (by simp) _)
 have hO4:Xt [Ns] w (w3.setRow Ns ([.int .u64 0,.int .u64 0,.int .u64 0,.int .u64 0,.bool false]:List Value).toArray):=(Xt.ext (hB1.below (hB2.below hB3))).trans (Xt.put Mx (cO 0 0 0 0 false) (by simp) _)
 generalize w3.setRow Ns ([.int .u64 0,.int .u64 0,.int .u64 0,.int .u64 0,.bool false]:List Value).toArray=w4 at *
 refine Pl.aj ?_
 repeat refine Pl.ay ?_
 refine Pl.ak (by kernel_rfl) ?_
 refine Pl.aF trivial rfl rfl rfl rfl rfl ?_
 refine Pl.aF trivial rfl rfl rfl rfl rfl ?_
 refine Pl.aF trivial rfl rfl rfl rfl rfl ?_
 refine Pl.aF trivial rfl rfl rfl rfl rfl ?_
 refine Pl.aF trivial rfl rfl rfl rfl rfl ?_
 refine Pl.aF trivial rfl rfl rfl rfl rfl ?_
 refine Pl.aj ?_
 repeat refine Pl.ay ?_
 refine Pl.ak (by kernel_rfl) ?_
 refine Pl.aF trivial rfl rfl rfl rfl rfl ?_
 refine Pl.aj ?_
 repeat refine Pl.ay ?_
 refine Pl.ak (by kernel_rfl) ?_
 refine Pl.aF trivial rfl rfl rfl rfl rfl ?_
 refine Pl.aj ?_
 have hwr:w.heap.size≤Nr:=hNr
 have hws:w.heap.size≤Ns:=Nat.le_trans (hB1.below hB2).size hNs
 have hrs:Nr≠Ns:=by have:=(Cb.ext Tn hB2).lt;omega
 refine Pl.eF [(2,.func (.func f) #[] cap.toArray),(6,.pointer (some ⟨Nr,0,none⟩)),(9,.pointer (some ⟨Ns,0,none⟩)),(7,.int .u64 (A:Int)),(8,.int .u64 (B:Int)),(10,.int .u64 (((0:Nat):Int):Int)),(11,.int .u64 (((1:Nat):Int):Int)),(12,.int .u64 (((0:Nat):Int):Int)),(13,.int .u64 (((0:Nat):Int):Int)),(14,.int .u64 (((0:Nat):Int):Int)),(15,.int .u64 (((1:Nat):Int):Int)),(16,.int .u64 (((0:Nat):Int):Int)),(17,.int .i64 (((0:Nat):Int):Int))] (Pl.aa rfl (Pl.aa rfl (Pl.aa rfl (Pl.aa rfl (Pl.aa rfl (Pl.aa rfl (Pl.aa rfl (Pl.aa rfl (Pl.aa rfl (Pl.aa rfl (Pl.aa rfl (Pl.aa rfl (Pl.aa rfl Pl.aI))))))))))))) ?_
 repeat refine Pl.ay ?_
 refine Pl.dM ?_
 repeat refine Pl.ay ?_
 refine Pl.pV (fun m l' w'=>∃ (k x y u0 u1 u2 v0 v1 v2 he:Nat) (ev:Bool) (ql:List Nat),m=y∧Gu A B (!ev) u1 v1 u2 v2 x y∧((k=0∧ql=[]∧v0=0∧ev=false∧u1=1∧v1=0∧u2=0∧v2=1∧x=A∧y=B)∨(k=ql.length+1∧Gh a b A B ql ev u0 u1 u2 v0 v1 v2 he x y))∧k≤100000∧he<18446744073709551616∧I ql w'∧Xc base (Ns::Bs) w w'∧Cb w' Ns 160 [.int .u64 0,.int .u64 0,.int .u64 0,.int .u64 0,.bool ev]∧Cb w' Nr 160 [.int .u64 0,.int .u64 0,.int .u64 0,.int .u64 0,.bool false]∧l'=[(2,.func (.func f) #[] cap.toArray),(6,.pointer (some ⟨Nr,0,none⟩)),(9,.pointer (some ⟨Ns,0,none⟩)),(7,.int .u64 (x:Int)),(8,.int .u64 (y:Int)),(10,.int .u64 (u0:Int)),(11,.int .u64 (u1:Int)),(12,.int .u64 (u2:Int)),(13,.int .u64 (v0:Int)),(14,.int .u64 (v1:Int)),(15,.int .u64 (v2:Int)),(16,.int .u64 (he:Int)),(17,.int .i64 (k:Int))]) B ⟨0,A,B,0,1,0,0,0,1,0,false,[],rfl,Gu.first hBA,.inl ⟨rfl,rfl,rfl,rfl,rfl,rfl,rfl,rfl,rfl,rfl⟩,by omega,by omega,hI _ _ _ _ h0 hO4 (by simp;exact ⟨hws,NR.out hws⟩),hX4,ks4,kr4,rfl⟩ ?_
 rintro y _ W ⟨k,x,_,u0,u1,u2,v0,v1,v2,he,ev,ql,rfl,hgu,hk,hkb,hhe,hIl,hX,ks,kr,rfl⟩
 have hle:=hgu.le
 have hxA:=hgu.YL
 by_cases c1:v2≤y
 · have hs1:=hgu.VG c1
   by_cases c2:v1+v2≤x-y
   · have hsm:=hgu.small hfit c1 c2
     have hnx:=hgu.next c1
     have hl2:=hnx.le2
     have hg0:=hgu.le2
     have hps:=hgu.pos
     repeat refine Pl.ay ?_
     refine Pl.ak (by kernel_rfl) ?_
     refine Pl.aA trivial rfl rfl rfl rfl rfl ?_
     refine Pl.aA trivial rfl rfl rfl rfl rfl ?_
     refine Pl.aN (v:=.bool true) trivial rfl rfl rfl rfl rfl rfl (fun X=>NB (decide_eq_true (by omega)) X) ?_
     refine Pl.aA trivial rfl rfl rfl rfl rfl ?_
     refine Pl.aA trivial rfl rfl rfl rfl rfl ?_
     refine Pl.aA trivial rfl rfl rfl rfl rfl ?_
     refine Pl.aN (v:=.int .u64 ((x-y:Nat):Int)) trivial rfl rfl rfl rfl rfl rfl (fun X=>afD hle rfl (by omega) X) ?_
     refine Pl.aA trivial rfl rfl rfl rfl rfl ?_
     refine Pl.aA trivial rfl rfl rfl rfl rfl ?_
     refine Pl.aN (v:=.int .u64 ((v1+v2:Nat):Int)) trivial rfl rfl rfl rfl rfl rfl (fun X=>sN rfl (by omega) X) ?_
     refine Pl.aN (v:=.bool true) trivial rfl rfl rfl rfl rfl rfl (fun X=>NB (decide_eq_true (by omega)) X) ?_
     refine Pl.pq trivial rfl rfl rfl rfl rfl rfl ?_
     refine Pl.aj ?_
     repeat refine Pl.ay ?_
     refine Pl.cK rfl ?_
     repeat refine Pl.ay ?_
     refine Pl.bM ?_
     repeat refine Pl.ay ?_
     refine Pl.dM ?_
     rcases hk with ⟨rfl,rfl,rfl,rfl,hu1,hv1,hu2,hv2,hx,hy⟩ | ⟨rfl,hg⟩
     · repeat refine Pl.ay ?_
       refine Pl.ak (by kernel_rfl) ?_
       refine Pl.aA trivial rfl rfl rfl rfl rfl ?_
       refine Pl.aN (v:=.bool false) trivial rfl rfl rfl rfl rfl rfl (fun X=>zR (decide_eq_false (by decide)) X) ?_
       refine Pl.aj ?_
       repeat refine Pl.ay ?_
       refine Pl.bn rfl ?_
       repeat refine Pl.ay ?_
       refine Pl.bM ?_
       have hX2:=hX
       have hI2:=hIl
       have ks2:=ks
       have kr2:=kr
       obtain ⟨W2,hW2⟩:∃ W2,W2=W:=⟨_,rfl⟩
       rw [← hW2] at hX2 hI2 ks2 kr2 ⊢
       have hg2:Gh a b A B [] true u1 u2 (u1+x/y*u2) v1 v2 (v1+x/y*v2) (x/y) y (x%y):=by rw [hu1,hv1,hu2,hv2,hx,hy];rw [hv2,hy] at c1;rw [hv1,hv2,hx,hy] at c2;exact Gh.first (T:=T) (a0:=a0) (b0:=b0) hBA hfit c1 (by omega)
       repeat refine Pl.ay ?_
       refine Pl.ak (by kernel_rfl) ?_
       refine Pl.aA trivial rfl rfl rfl rfl rfl ?_
       refine Pl.aA trivial rfl rfl rfl rfl rfl ?_
       refine Pl.aN (v:=.int .u64 ((x/y:Nat):Int)) trivial rfl rfl rfl rfl rfl rfl (fun X=>afC (by omega) (by omega) X) ?_
       refine Pl.aF trivial rfl rfl rfl rfl rfl ?_
       refine Pl.aj ?_
       repeat refine Pl.ay ?_
       refine Pl.iJ (S:=fun _=>True) [(true,0,0),(true,1,1),(true,2,3),(true,3,7),(true,4,15),(true,5,31)] fo (by repeat first | exact Pl.aB | refine Pl.lS ?_ | refine Pl.oh ?_ | refine Pl.yj ?_) (by kernel_rfl) trivial ?_
       have hB3:=Ext.drew (Ext.refl W2)
       have YK:=hX2.trans (Xc.ext hB3)
       have kH:=hI _ _ _ [] hI2 (Xt.ext hB3) (by simp)
       have Mx:=Cb.ext ks2 hB3
       have kr3:=Cb.ext kr2 hB3
       generalize W2.drew=W3 at *
       intro _
       refine Pl.aA trivial rfl rfl rfl rfl rfl ?_
       refine Pl.aA trivial rfl rfl rfl rfl rfl ?_
       refine Pl.aA trivial rfl rfl rfl rfl rfl ?_
       refine Pl.aN (v:=.int .u64 ((x%y:Nat):Int)) trivial rfl rfl rfl rfl rfl rfl (fun X=>YC (by omega) (by omega) X) ?_
       refine Pl.aF trivial rfl rfl rfl rfl rfl ?_
       refine Pl.aF trivial rfl rfl rfl rfl rfl ?_
       refine Pl.aj ?_
       have hpu:x/y*u2<18446744073709551616∧x/y*v2<18446744073709551616:=by omega
       repeat refine Pl.ay ?_
       refine Pl.ak (by kernel_rfl) ?_
       refine Pl.aA trivial rfl rfl rfl rfl rfl ?_
       refine Pl.aA trivial rfl rfl rfl rfl rfl ?_
       refine Pl.aA trivial rfl rfl rfl rfl rfl ?_
       refine Pl.aA trivial rfl rfl rfl rfl rfl ?_
       refine Pl.aA trivial rfl rfl rfl rfl rfl ?_
       refine Pl.aN (v:=.int .u64 ((x/y*u2:Nat):Int)) trivial rfl rfl rfl rfl rfl rfl (fun X=>yl rfl hpu.1 X) ?_
       refine Pl.aN (v:=.int .u64 ((u1+x/y*u2:Nat):Int)) trivial rfl rfl rfl rfl rfl rfl (fun X=>sN rfl (by omega) X) ?_
       refine Pl.aF trivial rfl rfl rfl rfl rfl ?_
       refine Pl.aF trivial rfl rfl rfl rfl rfl ?_
       refine Pl.aF trivial rfl rfl rfl rfl rfl ?_
       refine Pl.aj ?_
       repeat refine Pl.ay ?_
       refine Pl.ak (by kernel_rfl) ?_
       refine Pl.aA trivial rfl rfl rfl rfl rfl ?_
       refine Pl.aA trivial rfl rfl rfl rfl rfl ?_
       refine Pl.aA trivial rfl rfl rfl rfl rfl ?_
       refine Pl.aA trivial rfl rfl rfl rfl rfl ?_
       refine Pl.aA trivial rfl rfl rfl rfl rfl ?_
       refine Pl.aN (v:=.int .u64 ((x/y*v2:Nat):Int)) trivial rfl rfl rfl rfl rfl rfl (fun X=>yl rfl hpu.2 X) ?_
       refine Pl.aN (v:=.int .u64 ((v1+x/y*v2:Nat):Int)) trivial rfl rfl rfl rfl rfl rfl (fun X=>sN rfl (by omega) X) ?_
       refine Pl.aF trivial rfl rfl rfl rfl rfl ?_
       refine Pl.aF trivial rfl rfl rfl rfl rfl ?_
       refine Pl.aF trivial rfl rfl rfl rfl rfl ?_
       refine Pl.aj ?_
       repeat refine Pl.ay ?_
       refine Pl.ak (by kernel_rfl) ?_
       refine bL trivial rfl rfl rfl rfl rfl (sQ _) ?_
       refine Pl.aH trivial rfl rfl rfl rfl rfl (Cb.Lj Mx (j:=4) rfl) ?_
       refine Pl.ng (v:=.bool (!false)) trivial rfl rfl rfl rfl rfl (fun X=>by go_simp) ?_
       refine bL trivial rfl rfl rfl rfl rfl (sQ _) ?_
       refine Pl.aW rfl rfl rfl rfl rfl rfl (Cb.JL (j:=4) Mx rfl (!false)) trivial ?_
       have hX4:=YK.trans (Xc.xt <| Xt.set (Bs:=Ns::Bs) Mx (cO _ _ _ _ _) (by simp) 4 (.bool (!false)))
       have hI4:=hI _ _ _ _ kH (Xt.set (Bs:=[Ns]) Mx (cO _ _ _ _ _) (by simp) 4 (.bool (!false))) (by simp;exact ⟨hws,NR.of Mx (by decide)⟩)
       have kr4:=Cb.setOther kr3 Ns 4 (.bool (!false)) hrs
       have ks4:=Cb.set Mx 4 (.bool (!false))
       generalize W3.setCell ⟨Ns,4,none⟩ (.bool (!false))=W4 at *
       refine Pl.aj ?_
       refine Pl.dG ?_
       repeat refine Pl.ay ?_
       refine Pl.ak (by kernel_rfl) ?_
       refine Pl.aA trivial rfl rfl rfl rfl rfl ?_
       refine Pl.aN (v:=.int .i64 (((0:Nat)+1:Nat):Int)) trivial rfl rfl rfl rfl rfl rfl (fun X=>nM (by omega) (by omega) (by omega) X) ?_
       refine Pl.aF trivial rfl rfl rfl rfl rfl ?_
       refine Pl.aj ?_
       exact Pl.jY [(2,.func (.func f) #[] cap.toArray),(6,.pointer (some ⟨Nr,0,none⟩)),(9,.pointer (some ⟨Ns,0,none⟩)),(7,.int .u64 (y:Int)),(8,.int .u64 (((x%y:Nat):Int):Int)),(10,.int .u64 (u1:Int)),(11,.int .u64 (u2:Int)),(12,.int .u64 (((u1+x/y*u2:Nat):Int):Int)),(13,.int .u64 (v1:Int)),(14,.int .u64 (v2:Int)),(15,.int .u64 (((v1+x/y*v2:Nat):Int):Int)),(16,.int .u64 (((x/y:Nat):Int):Int)),(17,.int .i64 ((((0:Nat)+1:Nat):Int):Int))] (Pl.aa rfl (Pl.aa rfl (Pl.aa rfl (Pl.aa rfl (Pl.aa rfl (Pl.aa rfl (Pl.aa rfl (Pl.aa rfl (Pl.aa rfl (Pl.aa rfl (Pl.aa rfl (Pl.aa rfl (Pl.aa rfl Pl.aI))))))))))))) (Nat.mod_lt x (by omega)) ⟨(0:Nat)+1,y,x%y,u1,u2,u1+x/y*u2,v1,v2,v1+x/y*v2,x/y,true,[],rfl,hnx,.inr ⟨rfl,hg2⟩,by omega,Nat.lt_of_le_of_lt (Nat.div_le_self _ _) (by omega),hI4,hX4,ks4,kr4,rfl⟩
     · repeat refine Pl.ay ?_
       refine Pl.ak (by kernel_rfl) ?_
       refine Pl.aA trivial rfl rfl rfl rfl rfl ?_
       refine Pl.aN (v:=.bool true) trivial rfl rfl rfl rfl rfl rfl (fun X=>zR (decide_eq_true (by omega)) X) ?_
       refine Pl.aj ?_
       repeat refine Pl.ay ?_
       refine Pl.cK rfl ?_
       have hg2:=hg.next hda.symm hdb.symm hma hmb hfit c1 c2
       have hpre:∃ rest,quo a b=(ql++[he])++rest:=by obtain ⟨P,Q,ht⟩:=hg2.tl;exact ⟨_,ht.told⟩
       repeat refine Pl.ay ?_
       refine Pl.ak (by kernel_rfl) ?_
       refine Pl.aA trivial rfl rfl rfl rfl rfl ?_
       refine Pl.aA trivial rfl rfl rfl rfl rfl ?_
       refine Pl.gG rfl rfl rfl rfl rfl rfl hen ?_
       refine Calls.mono (hcall ql he W hhe hpre hIl) ?_
       rintro e W2 ⟨rfl,hI2,hX2⟩
       refine ⟨_,rfl,trivial,?_⟩
       refine Pl.aj ?_
       have ks2:=hX2.cb ks (fun hb=>by have:=Ci _ hb;omega) (.inr (by decide))
       have kr2:=hX2.cb kr (fun hb=>by have:=Ci _ hb;omega) (.inr (by decide))
       have hX2:=hX.trans (hX2.mono (Cs:=Ns::Bs) fun k hk=>List.mem_cons_of_mem _ hk)
       have hk2:ql.length+1≤64000:=by obtain ⟨rest,hr⟩:=hpre;rw [hr] at SQ;simp at SQ;omega
       repeat refine Pl.ay ?_
       refine Pl.ak (by kernel_rfl) ?_
       refine Pl.aA trivial rfl rfl rfl rfl rfl ?_
       refine Pl.aA trivial rfl rfl rfl rfl rfl ?_
       refine Pl.aN (v:=.int .u64 ((x/y:Nat):Int)) trivial rfl rfl rfl rfl rfl rfl (fun X=>afC (by omega) (by omega) X) ?_
       refine Pl.aF trivial rfl rfl rfl rfl rfl ?_
       refine Pl.aj ?_
       repeat refine Pl.ay ?_
       refine Pl.iJ (S:=fun _=>True) [(true,0,0),(true,1,1),(true,2,3),(true,3,7),(true,4,15),(true,5,31)] fo (by repeat first | exact Pl.aB | refine Pl.lS ?_ | refine Pl.oh ?_ | refine Pl.yj ?_) (by kernel_rfl) trivial ?_
       have hB3:=Ext.drew (Ext.refl W2)
       have YK:=hX2.trans (Xc.ext hB3)
       have kH:=hI _ _ _ [] hI2 (Xt.ext hB3) (by simp)
       have Mx:=Cb.ext ks2 hB3
       have kr3:=Cb.ext kr2 hB3
       generalize W2.drew=W3 at *
       intro _
       refine Pl.aA trivial rfl rfl rfl rfl rfl ?_
       refine Pl.aA trivial rfl rfl rfl rfl rfl ?_
       refine Pl.aA trivial rfl rfl rfl rfl rfl ?_
       refine Pl.aN (v:=.int .u64 ((x%y:Nat):Int)) trivial rfl rfl rfl rfl rfl rfl (fun X=>YC (by omega) (by omega) X) ?_
       refine Pl.aF trivial rfl rfl rfl rfl rfl ?_
       refine Pl.aF trivial rfl rfl rfl rfl rfl ?_
       refine Pl.aj ?_
       have hpu:x/y*u2<18446744073709551616∧x/y*v2<18446744073709551616:=by omega
       repeat refine Pl.ay ?_
       refine Pl.ak (by kernel_rfl) ?_
       refine Pl.aA trivial rfl rfl rfl rfl rfl ?_
       refine Pl.aA trivial rfl rfl rfl rfl rfl ?_
       refine Pl.aA trivial rfl rfl rfl rfl rfl ?_
       refine Pl.aA trivial rfl rfl rfl rfl rfl ?_
       refine Pl.aA trivial rfl rfl rfl rfl rfl ?_
       refine Pl.aN (v:=.int .u64 ((x/y*u2:Nat):Int)) trivial rfl rfl rfl rfl rfl rfl (fun X=>yl rfl hpu.1 X) ?_
       refine Pl.aN (v:=.int .u64 ((u1+x/y*u2:Nat):Int)) trivial rfl rfl rfl rfl rfl rfl (fun X=>sN rfl (by omega) X) ?_
       refine Pl.aF trivial rfl rfl rfl rfl rfl ?_
       refine Pl.aF trivial rfl rfl rfl rfl rfl ?_
       refine Pl.aF trivial rfl rfl rfl rfl rfl ?_
       refine Pl.aj ?_
       repeat refine Pl.ay ?_
       refine Pl.ak (by kernel_rfl) ?_
       refine Pl.aA trivial rfl rfl rfl rfl rfl ?_
       refine Pl.aA trivial rfl rfl rfl rfl rfl ?_
       refine Pl.aA trivial rfl rfl rfl rfl rfl ?_
       refine Pl.aA trivial rfl rfl rfl rfl rfl ?_
       refine Pl.aA trivial rfl rfl rfl rfl rfl ?_
       refine Pl.aN (v:=.int .u64 ((x/y*v2:Nat):Int)) trivial rfl rfl rfl rfl rfl rfl (fun X=>yl rfl hpu.2 X) ?_
       refine Pl.aN (v:=.int .u64 ((v1+x/y*v2:Nat):Int)) trivial rfl rfl rfl rfl rfl rfl (fun X=>sN rfl (by omega) X) ?_
       refine Pl.aF trivial rfl rfl rfl rfl rfl ?_
       refine Pl.aF trivial rfl rfl rfl rfl rfl ?_
       refine Pl.aF trivial rfl rfl rfl rfl rfl ?_
       refine Pl.aj ?_
       repeat refine Pl.ay ?_
       refine Pl.ak (by kernel_rfl) ?_
       refine bL trivial rfl rfl rfl rfl rfl (sQ _) ?_
       refine Pl.aH trivial rfl rfl rfl rfl rfl (Cb.Lj Mx (j:=4) rfl) ?_
       refine Pl.ng (v:=.bool (!ev)) trivial rfl rfl rfl rfl rfl (fun X=>by go_simp) ?_
       refine bL trivial rfl rfl rfl rfl rfl (sQ _) ?_
       refine Pl.aW rfl rfl rfl rfl rfl rfl (Cb.JL (j:=4) Mx rfl (!ev)) trivial ?_
       have hX4:=YK.trans (Xc.xt <| Xt.set (Bs:=Ns::Bs) Mx (cO _ _ _ _ _) (by simp) 4 (.bool (!ev)))
       have hI4:=hI _ _ _ _ kH (Xt.set (Bs:=[Ns]) Mx (cO _ _ _ _ _) (by simp) 4 (.bool (!ev))) (by simp;exact ⟨hws,NR.of Mx (by decide)⟩)
       have kr4:=Cb.setOther kr3 Ns 4 (.bool (!ev)) hrs
       have ks4:=Cb.set Mx 4 (.bool (!ev))
       generalize W3.setCell ⟨Ns,4,none⟩ (.bool (!ev))=W4 at *
       refine Pl.aj ?_
       refine Pl.dG ?_
       repeat refine Pl.ay ?_
       refine Pl.ak (by kernel_rfl) ?_
       refine Pl.aA trivial rfl rfl rfl rfl rfl ?_
       refine Pl.aN (v:=.int .i64 (((ql.length+1)+1:Nat):Int)) trivial rfl rfl rfl rfl rfl rfl (fun X=>nM (by omega) (by omega) (by omega) X) ?_
       refine Pl.aF trivial rfl rfl rfl rfl rfl ?_
       refine Pl.aj ?_
       exact Pl.jY [(2,.func (.func f) #[] cap.toArray),(6,.pointer (some ⟨Nr,0,none⟩)),(9,.pointer (some ⟨Ns,0,none⟩)),(7,.int .u64 (y:Int)),(8,.int .u64 (((x%y:Nat):Int):Int)),(10,.int .u64 (u1:Int)),(11,.int .u64 (u2:Int)),(12,.int .u64 (((u1+x/y*u2:Nat):Int):Int)),(13,.int .u64 (v1:Int)),(14,.int .u64 (v2:Int)),(15,.int .u64 (((v1+x/y*v2:Nat):Int):Int)),(16,.int .u64 (((x/y:Nat):Int):Int)),(17,.int .i64 ((((ql.length+1)+1:Nat):Int):Int))] (Pl.aa rfl (Pl.aa rfl (Pl.aa rfl (Pl.aa rfl (Pl.aa rfl (Pl.aa rfl (Pl.aa rfl (Pl.aa rfl (Pl.aa rfl (Pl.aa rfl (Pl.aa rfl (Pl.aa rfl (Pl.aa rfl Pl.aI))))))))))))) (Nat.mod_lt x (by omega)) ⟨(ql.length+1)+1,y,x%y,u1,u2,u1+x/y*u2,v1,v2,v1+x/y*v2,x/y,(!ev),(ql++[he]),rfl,hnx,.inr ⟨by simp,hg2⟩,by omega,Nat.lt_of_le_of_lt (Nat.div_le_self _ _) (by omega),hI4,hX4,ks4,kr4,rfl⟩
   · repeat refine Pl.ay ?_
     refine Pl.ak (by kernel_rfl) ?_
     refine Pl.aA trivial rfl rfl rfl rfl rfl ?_
     refine Pl.aA trivial rfl rfl rfl rfl rfl ?_
     refine Pl.aN (v:=.bool true) trivial rfl rfl rfl rfl rfl rfl (fun X=>NB (decide_eq_true (by omega)) X) ?_
     refine Pl.aA trivial rfl rfl rfl rfl rfl ?_
     refine Pl.aA trivial rfl rfl rfl rfl rfl ?_
     refine Pl.aA trivial rfl rfl rfl rfl rfl ?_
     refine Pl.aN (v:=.int .u64 ((x-y:Nat):Int)) trivial rfl rfl rfl rfl rfl rfl (fun X=>afD hle rfl (by omega) X) ?_
     refine Pl.aA trivial rfl rfl rfl rfl rfl ?_
     refine Pl.aA trivial rfl rfl rfl rfl rfl ?_
     refine Pl.aN (v:=.int .u64 ((v1+v2:Nat):Int)) trivial rfl rfl rfl rfl rfl rfl (fun X=>sN rfl (by omega) X) ?_
     refine Pl.aN (v:=.bool false) trivial rfl rfl rfl rfl rfl rfl (fun X=>NB (decide_eq_false (by omega)) X) ?_
     refine Pl.pq trivial rfl rfl rfl rfl rfl rfl ?_
     refine Pl.aj ?_
     repeat refine Pl.ay ?_
     refine Pl.bn rfl ?_
     repeat refine Pl.ay ?_
     refine Pl.lD ?_
     have hY:Xt [Ns,Nr] W W:=Xt.refl _ _
     obtain ⟨W0,hW0⟩:∃ W0,W0=W:=⟨_,rfl⟩
     have ks0:=ks
     have YM:=kr
     rw [← hW0] at hIl ks0 YM
     have hY:Xt [Ns,Nr] W0 W:=by rw [hW0];exact Xt.refl _ _
     clear hW0
     repeat refine Pl.ay ?_
     refine Pl.ak (by kernel_rfl) ?_
     refine Pl.aA trivial rfl rfl rfl rfl rfl ?_
     refine Pl.aA trivial rfl rfl rfl rfl rfl ?_
     refine Pl.aA trivial rfl rfl rfl rfl rfl ?_
     refine Pl.aA trivial rfl rfl rfl rfl rfl ?_
     refine bL trivial rfl rfl rfl rfl rfl (vL _) ?_
     refine Pl.aW rfl rfl rfl rfl rfl rfl (Cb.storeU64 (j:=0) ks rfl (u0:Int)) trivial ?_
     have hX:=hX.trans (Xc.xt <| Xt.set (Bs:=Ns::Bs) ks (cO _ _ _ _ _) (by simp) 0 (.int .u64 (u0:Int)))
     have hY:=hY.trans (Xt.set (Bs:=[Ns,Nr]) ks (cO _ _ _ _ _) (by simp) 0 (.int .u64 (u0:Int)))
     have kr:=Cb.setOther kr Ns 0 (.int .u64 (u0:Int)) hrs
     replace ks:=Cb.set ks 0 (.int .u64 (u0:Int))
     generalize W.setCell ⟨Ns,0,none⟩ (.int .u64 (u0:Int))=W at *
     refine bL trivial rfl rfl rfl rfl rfl (vM _) ?_
     refine Pl.aW rfl rfl rfl rfl rfl rfl (Cb.storeU64 (j:=1) ks rfl (u1:Int)) trivial ?_
     have hX:=hX.trans (Xc.xt <| Xt.set (Bs:=Ns::Bs) ks (cO _ _ _ _ _) (by simp) 1 (.int .u64 (u1:Int)))
     have hY:=hY.trans (Xt.set (Bs:=[Ns,Nr]) ks (cO _ _ _ _ _) (by simp) 1 (.int .u64 (u1:Int)))
     have kr:=Cb.setOther kr Ns 1 (.int .u64 (u1:Int)) hrs
     replace ks:=Cb.set ks 1 (.int .u64 (u1:Int))
     generalize W.setCell ⟨Ns,1,none⟩ (.int .u64 (u1:Int))=W at *
     refine bL trivial rfl rfl rfl rfl rfl (sP _) ?_
     refine Pl.aW rfl rfl rfl rfl rfl rfl (Cb.storeU64 (j:=2) ks rfl (v0:Int)) trivial ?_
     have hX:=hX.trans (Xc.xt <| Xt.set (Bs:=Ns::Bs) ks (cO _ _ _ _ _) (by simp) 2 (.int .u64 (v0:Int)))
     have hY:=hY.trans (Xt.set (Bs:=[Ns,Nr]) ks (cO _ _ _ _ _) (by simp) 2 (.int .u64 (v0:Int)))
     have kr:=Cb.setOther kr Ns 2 (.int .u64 (v0:Int)) hrs
     replace ks:=Cb.set ks 2 (.int .u64 (v0:Int))
     generalize W.setCell ⟨Ns,2,none⟩ (.int .u64 (v0:Int))=W at *
     refine bL trivial rfl rfl rfl rfl rfl (vN _) ?_
     refine Pl.aW rfl rfl rfl rfl rfl rfl (Cb.storeU64 (j:=3) ks rfl (v1:Int)) trivial ?_
     have hX:=hX.trans (Xc.xt <| Xt.set (Bs:=Ns::Bs) ks (cO _ _ _ _ _) (by simp) 3 (.int .u64 (v1:Int)))
     have hY:=hY.trans (Xt.set (Bs:=[Ns,Nr]) ks (cO _ _ _ _ _) (by simp) 3 (.int .u64 (v1:Int)))
     have kr:=Cb.setOther kr Ns 3 (.int .u64 (v1:Int)) hrs
     replace ks:=Cb.set ks 3 (.int .u64 (v1:Int))
     generalize W.setCell ⟨Ns,3,none⟩ (.int .u64 (v1:Int))=W at *
     refine Pl.aj ?_
     have ks:Cb W Ns 160 [.int .u64 (u0:Int),.int .u64 (u1:Int),.int .u64 (v0:Int),.int .u64 (v1:Int),.bool ev]:=ks
     repeat refine Pl.ay ?_
     refine Pl.ak (by kernel_rfl) ?_
     refine Pl.aH trivial rfl rfl rfl rfl rfl (Cb.load ks _ _ rfl rfl (by kernel_rfl)) ?_
     refine iC (new:=[.int .u64 (u0:Int),.int .u64 (u1:Int),.int .u64 (v0:Int),.int .u64 (v1:Int),.bool ev]) kr rfl rfl rfl rfl rfl rfl (by kernel_rfl) rfl (by simp [Value.oneCell']) trivial ?_
     refine Pl.aj ?_
     have hX:=(hX.mono (Cs:=Nr::Ns::Bs) (fun k hk=>List.mem_cons_of_mem _ hk)).trans (Xc.xt <| Xt.put kr (cO _ _ _ _ _) (by simp) ([.int .u64 (u0:Int),.int .u64 (u1:Int),.int .u64 (v0:Int),.int .u64 (v1:Int),.bool ev]:List Value).toArray)
     have hY:=hY.trans (Xt.put kr (cO _ _ _ _ _) (by simp) ([.int .u64 (u0:Int),.int .u64 (u1:Int),.int .u64 (v0:Int),.int .u64 (v1:Int),.bool ev]:List Value).toArray)
     have kr:=Cb.put kr [.int .u64 (u0:Int),.int .u64 (u1:Int),.int .u64 (v0:Int),.int .u64 (v1:Int),.bool ev]
     refine kE rfl rfl kr rfl rfl (by kernel_rfl) ⟨ql,u0,u1,v0,v1,ev,rfl,hI _ _ _ _ hIl hY (by simp;exact ⟨⟨hws,NR.of ks0 (by decide)⟩,⟨hwr,NR.of YM (by decide)⟩⟩),hX.drop (by simp;exact ⟨.inr hwr,.inr hws,fun k hk=>.inl hk⟩),JM hk⟩
 · repeat refine Pl.ay ?_
   refine Pl.ak (by kernel_rfl) ?_
   refine Pl.aA trivial rfl rfl rfl rfl rfl ?_
   refine Pl.aA trivial rfl rfl rfl rfl rfl ?_
   refine Pl.aN (v:=.bool false) trivial rfl rfl rfl rfl rfl rfl (fun X=>NB (decide_eq_false (by omega)) X) ?_
   refine Pl.aA trivial rfl rfl rfl rfl rfl ?_
   refine Pl.kW rfl rfl rfl ?_
   refine Pl.kW rfl rfl rfl ?_
   refine Pl.kW rfl rfl rfl ?_
   refine Pl.kW rfl rfl rfl ?_
   refine Pl.kW rfl rfl rfl ?_
   refine Pl.kW rfl rfl rfl ?_
   refine Pl.kW rfl rfl rfl ?_
   refine Pl.pq trivial rfl rfl rfl rfl rfl rfl ?_
   refine Pl.aj ?_
   repeat refine Pl.ay ?_
   refine Pl.bn rfl ?_
   repeat refine Pl.ay ?_
   refine Pl.lD ?_
   have hY:Xt [Ns,Nr] W W:=Xt.refl _ _
   obtain ⟨W0,hW0⟩:∃ W0,W0=W:=⟨_,rfl⟩
   have ks0:=ks
   have YM:=kr
   rw [← hW0] at hIl ks0 YM
   have hY:Xt [Ns,Nr] W0 W:=by rw [hW0];exact Xt.refl _ _
   clear hW0
   repeat refine Pl.ay ?_
   refine Pl.ak (by kernel_rfl) ?_
   refine Pl.aA trivial rfl rfl rfl rfl rfl ?_
   refine Pl.aA trivial rfl rfl rfl rfl rfl ?_
   refine Pl.aA trivial rfl rfl rfl rfl rfl ?_
   refine Pl.aA trivial rfl rfl rfl rfl rfl ?_
   refine bL trivial rfl rfl rfl rfl rfl (vL _) ?_
   refine Pl.aW rfl rfl rfl rfl rfl rfl (Cb.storeU64 (j:=0) ks rfl (u0:Int)) trivial ?_
   have hX:=hX.trans (Xc.xt <| Xt.set (Bs:=Ns::Bs) ks (cO _ _ _ _ _) (by simp) 0 (.int .u64 (u0:Int)))
   have hY:=hY.trans (Xt.set (Bs:=[Ns,Nr]) ks (cO _ _ _ _ _) (by simp) 0 (.int .u64 (u0:Int)))
   have kr:=Cb.setOther kr Ns 0 (.int .u64 (u0:Int)) hrs
   replace ks:=Cb.set ks 0 (.int .u64 (u0:Int))
   generalize W.setCell ⟨Ns,0,none⟩ (.int .u64 (u0:Int))=W at *
   refine bL trivial rfl rfl rfl rfl rfl (vM _) ?_
   refine Pl.aW rfl rfl rfl rfl rfl rfl (Cb.storeU64 (j:=1) ks rfl (u1:Int)) trivial ?_
   have hX:=hX.trans (Xc.xt <| Xt.set (Bs:=Ns::Bs) ks (cO _ _ _ _ _) (by simp) 1 (.int .u64 (u1:Int)))
   have hY:=hY.trans (Xt.set (Bs:=[Ns,Nr]) ks (cO _ _ _ _ _) (by simp) 1 (.int .u64 (u1:Int)))
   have kr:=Cb.setOther kr Ns 1 (.int .u64 (u1:Int)) hrs
   replace ks:=Cb.set ks 1 (.int .u64 (u1:Int))
   generalize W.setCell ⟨Ns,1,none⟩ (.int .u64 (u1:Int))=W at *
   refine bL trivial rfl rfl rfl rfl rfl (sP _) ?_
   refine Pl.aW rfl rfl rfl rfl rfl rfl (Cb.storeU64 (j:=2) ks rfl (v0:Int)) trivial ?_
   have hX:=hX.trans (Xc.xt <| Xt.set (Bs:=Ns::Bs) ks (cO _ _ _ _ _) (by simp) 2 (.int .u64 (v0:Int)))
   have hY:=hY.trans (Xt.set (Bs:=[Ns,Nr]) ks (cO _ _ _ _ _) (by simp) 2 (.int .u64 (v0:Int)))
   have kr:=Cb.setOther kr Ns 2 (.int .u64 (v0:Int)) hrs
   replace ks:=Cb.set ks 2 (.int .u64 (v0:Int))
   generalize W.setCell ⟨Ns,2,none⟩ (.int .u64 (v0:Int))=W at *
   refine bL trivial rfl rfl rfl rfl rfl (vN _) ?_
   refine Pl.aW rfl rfl rfl rfl rfl rfl (Cb.storeU64 (j:=3) ks rfl (v1:Int)) trivial ?_
   have hX:=hX.trans (Xc.xt <| Xt.set (Bs:=Ns::Bs) ks (cO _ _ _ _ _) (by simp) 3 (.int .u64 (v1:Int)))
   have hY:=hY.trans (Xt.set (Bs:=[Ns,Nr]) ks (cO _ _ _ _ _) (by simp) 3 (.int .u64 (v1:Int)))
   have kr:=Cb.setOther kr Ns 3 (.int .u64 (v1:Int)) hrs
   replace ks:=Cb.set ks 3 (.int .u64 (v1:Int))
   generalize W.setCell ⟨Ns,3,none⟩ (.int .u64 (v1:Int))=W at *
   refine Pl.aj ?_
   have ks:Cb W Ns 160 [.int .u64 (u0:Int),.int .u64 (u1:Int),.int .u64 (v0:Int),.int .u64 (v1:Int),.bool ev]:=ks
   repeat refine Pl.ay ?_
   refine Pl.ak (by kernel_rfl) ?_
   refine Pl.aH trivial rfl rfl rfl rfl rfl (Cb.load ks _ _ rfl rfl (by kernel_rfl)) ?_
   refine iC (new:=[.int .u64 (u0:Int),.int .u64 (u1:Int),.int .u64 (v0:Int),.int .u64 (v1:Int),.bool ev]) kr rfl rfl rfl rfl rfl rfl (by kernel_rfl) rfl (by simp [Value.oneCell']) trivial ?_
   refine Pl.aj ?_
   have hX:=(hX.mono (Cs:=Nr::Ns::Bs) (fun k hk=>List.mem_cons_of_mem _ hk)).trans (Xc.xt <| Xt.put kr (cO _ _ _ _ _) (by simp) ([.int .u64 (u0:Int),.int .u64 (u1:Int),.int .u64 (v0:Int),.int .u64 (v1:Int),.bool ev]:List Value).toArray)
   have hY:=hY.trans (Xt.put kr (cO _ _ _ _ _) (by simp) ([.int .u64 (u0:Int),.int .u64 (u1:Int),.int .u64 (v0:Int),.int .u64 (v1:Int),.bool ev]:List Value).toArray)
   have kr:=Cb.put kr [.int .u64 (u0:Int),.int .u64 (u1:Int),.int .u64 (v0:Int),.int .u64 (v1:Int),.bool ev]
   refine kE rfl rfl kr rfl rfl (by kernel_rfl) ⟨ql,u0,u1,v0,v1,ev,rfl,hI _ _ _ _ hIl hY (by simp;exact ⟨⟨hws,NR.of ks0 (by decide)⟩,⟨hwr,NR.of YM (by decide)⟩⟩),hX.drop (by simp;exact ⟨.inr hwr,.inr hws,fun k hk=>.inl hk⟩),JM hk⟩
end Go.Proofs.YtfhcmggpojhegaaGreatDoor
/- Own rows of limbs. -/
namespace Go.Proofs.YtfhcmggpojhegaaGreatDoor
open Go.RowKit
set_option linter.all false
set_option maxRecDepth 100000
set_option maxHeartbeats 8000000
def cu (o:List Nat):List Value:=o.map fun (x:Nat)=>Value.int .u32 (x:Int)
theorem afI {o:List Nat} {j:Nat} (h:j<o.length):(cu o)[j]?=some (.int .u32 (lb o j:Nat)):=by simp [cu,lb,h]
theorem ahp (o:List Nat) (j x:Nat):(cu o).set j (.int .u32 (x:Int))=cu (o.set j x):=by simp [cu,List.map_set]
theorem Cb.row {w:World} {N:Nat} {o:List Nat} (h:Cb w N 27 (cu o)) (hx:∀ x∈o,x<4294967296) (hl:o.length≤9223372036854775807):U w (.slice (some ⟨N,0,none⟩) o.length o.length) o :=
 ⟨_,_,rfl,⟨Nat.le_refl _,hl⟩,hx,fun h0=>⟨⟨N,0,none⟩,rfl,h.lt,fun j hj=>by
  rw [Addr.add_mid,Nat.zero_add]
  exact h.cellAt (afI hj)⟩⟩
section
variable {L:List Oper} {S:World→Prop} {K:List (Nat × Value)→World→Prop} {k:Bool} {i m d:Nat} {o:Oper} {x y:Operand} {r:List (Bool × Nat × Nat)} {l:List (Nat × Value)} {w:World}
theorem afJ {n:Nat} {z:Int} (hz:z=(n:Int)) (ho:Pl.nth L i=some o) (hp:o.op = .makeSlice 22 x y) (hd:o.dst=some d) (hg:Pl.gd L l o.guard=some true) (hx:Pl.dF l x=some (.int .i64 z)) (hy:Pl.dF l y=some (.int .i64 z)) (hn:n≤1000000000)
  (hS:∀ Y,Ext w Y→S Y) (h:∀ N w',Ext w w'→w.heap.size≤N→Cb w' N 27 (cu (List.replicate n 0))→Pl.dO Tryz.prog L S K r ((d,.slice (some ⟨N,0,none⟩) n n)::l) w'):Pl.dO Tryz.prog L S K ((false,i,m)::r) l w:=by
 subst hz
 have asc:(Tryz.prog.info? 27).map (fun i=>(i.zero,i.size,i.bytes))=some (some (.int .u32 0),1,4):=by kernel_rfl
 have hr:=run_make_row' (P:=Tryz.prog) 22 27 (.int .u32 0) 4 (by kernel_rfl) asc rfl .i64 .i64 n (by omega) (by omega) w
 have e1:=(Ext.refl w).alloc (.cells (madeCells #[.int .u32 0] n) 27)
 have hm:madeCells #[Value.int .u32 0] n=(cu (List.replicate n 0)).toArray:=by
  apply Array.ext
  · simp [madeCells,cu]
  · intro j h1 h2
    simp [madeCells,cu,Nat.mod_one]
 refine Pl.mh (w':=w.alloc (.cells (madeCells #[.int .u32 0] n) 27)) (v:=.slice (some ⟨w.heap.size,0,none⟩) n n) ho hd hg (fun ρ hρ=>?_) (hS _ e1) (h _ _ e1 (Nat.le_refl _) ?_)
 · unfold execOp;rw [hp]
   refine Pl.kJ _ ?_
   rw [hρ.dF hx,hρ.dF hy]
   exact hr
 · rw [hm];exact Cb.new w _ _
theorem YN {t:Array TypeId} {a b:Int} (hS:S w) (ho:Pl.nth L i=some o) (hop:o.op = .call { callee:=.builtin .max,args:=#[x,y],argTypes:=t }) (hd:o.dst=some d) (hg:Pl.gd L l o.guard=some true) (hx:Pl.dF l x=some (.int .i64 a)) (hy:Pl.dF l y=some (.int .i64 b))
  (h:Pl.dO Tryz.prog L S K r ((d,.int .i64 (if b>a then b else a))::l) w):Pl.dO Tryz.prog L S K ((k,i,m)::r) l w :=
 Pl.dB hS ho hd hg (fun ρ hρ X _=>by
  unfold execOp;rw [hop]
  refine Pl.fJ (Builtin.max_ _ _ (#[x,y].map ρ)) X ?_
  rw [show #[x,y].map ρ=#[.int .i64 a,.int .i64 b] from by simp [hρ.dF hx,hρ.dF hy]]
  exact run_max_int2 _ _ _ _ _ _ _) h
end
theorem ami (N n c j:Nat) (h:j<n) (X:World):(Instr.indexAt 22 (.slice (some ⟨N,0,none⟩) n c) (.int .i64 (j:Int))).run Tryz.prog X = .ok (.pointer (some ⟨N,j,none⟩)) X:=by
 have h1:(j:Int)<(n:Int):=by omega
 have h0:(0:Int)≤(j:Int):=by omega
 have e:(⟨N,0,none⟩:Addr).add j=⟨N,j,none⟩:=by rw [Addr.add_mid,Nat.zero_add]
 go_simp
theorem Cb.YO {w:World} {N:Nat} {o:List Nat} (h:Cb w N 27 (cu o)) {j:Nat} (hj:j<o.length) (x:Nat):(Instr.storeAt 27 (.pointer (some ⟨N,j,none⟩)) (.int .u32 (x:Int))).run Tryz.prog w = .ok () (w.setCell ⟨N,j,none⟩ (.int .u32 (x:Int))):=by
 have hc:=h.cellAt (afI hj)
 have hf:w.frozen? ⟨N,j,none⟩=false:=by unfold Cb at h;simp [World.frozen?,h]
 clear h hj
 go_simp
theorem Cb.amj {w:World} {N:Nat} {o:List Nat} (h:Cb w N 27 (cu o)) (j x:Nat):Cb (w.setCell ⟨N,j,none⟩ (.int .u32 (x:Int))) N 27 (cu (o.set j x)):=by rw [← ahp];exact Cb.set h j _
theorem Ext.YP {w0 w:World} (h:Ext w0 w) {N j:Nat} (hN:w0.heap.size≤N) (v:Value):Ext w0 (w.setCell ⟨N,j,none⟩ v):=Below.setCell h (by exact hN) v
theorem Ll {a:Nat} (X:World):(convert 82 27 (.int .u64 (a:Int))).run Tryz.prog X = .ok (.int .u32 ((a%4294967296:Nat):Int)) X:=by
 have w1:IntKind.u32.wrap (a:Int)=((a%4294967296:Nat):Int):=by rw [IntKind.wrap_u32];omega
 go_simp
theorem TU {xs:List Nat} {j:Nat} (h:¬ j<xs.length):lb xs j=0:=nN (Nat.le_of_not_lt h)
theorem mod_succ (X i:Nat):X%4294967296^(i+1)=X%4294967296^i+lb (limbs X) i*4294967296^i:=by
 rw [r9,Nat.pow_succ,Nat.mod_mul,Nat.mul_comm (4294967296^i)]
theorem Aw (o:List Nat) (i x:Nat) (h:i<o.length):val ((o.set i x).take (i+1))=val (o.take i)+x*4294967296^i:=by
 rw [List.take_set,List.take_add_one,List.getElem?_eq_getElem h]
 have hl:(o.take i).length=i:=by simp;omega
 rw [Option.toList_some,List.set_append_right _ _ (by omega),hl,Nat.sub_self,List.set_cons_zero,val_append,hl]
 simp [val,Nat.mul_comm]
theorem AA {a:Nat} {z:Int} (hz:z=32) (h:a<18446744073709551616) (X:World) {x y:Operand}:(do eqGuard .shr 82 x y (.int .u64 (a:Int)) (.int .u64 z);binOp .shr 82 (.int .u64 (a:Int)) (.int .u64 z):Sem Value).run Tryz.prog X = .ok (.int .u64 ((a/4294967296:Nat):Int)) X:=by
 subst hz
 have e:(a:Int)/4294967296=((a/4294967296:Nat):Int):=by omega
 have w1:=Ep (c:=a/4294967296) (by omega)
 clear h
 generalize a/4294967296=c at *
 go_simp
theorem TV {a:Nat} {z:Int} (hz:z=4294967295) (h:a<18446744073709551616) (X:World) {x y:Operand}:(do eqGuard .and 82 x y (.int .u64 (a:Int)) (.int .u64 z);binOp .and 82 (.int .u64 (a:Int)) (.int .u64 z):Sem Value).run Tryz.prog X = .ok (.int .u64 ((a%4294967296:Nat):Int)) X:=by
 subst hz
 have e:bits .and .u64 (a:Int) 4294967295=((a%4294967296:Nat):Int):=by
  have h31:(BitVec.ofInt 64 4294967295).toNat=2^32-1:=by decide
  have key:(BitVec.ofInt 64 (a:Int)&&&BitVec.ofInt 64 4294967295).toNat=a%2^32:=by
   rw [BitVec.toNat_and,h31,Nat.and_two_pow_sub_one_eq_mod,BitVec.toNat_ofInt]
   congr 1
   omega
  show IntKind.u64.wrap ((BitVec.ofInt 64 (a:Int)&&&BitVec.ofInt 64 4294967295).toNat:Nat)=_
  rw [key]
  exact Ep (by omega)
 clear h
 go_simp
end Go.Proofs.YtfhcmggpojhegaaGreatDoor
