/- Many of Euclid's steps, guessed by the leading bits of both numbers. -/
import Derived.Test.YtgcieamfidoaoaaGreatDoorEab
import Derived.Test.YtgcieamfidoaoaaGreatDoorEbe
import Derived.Test.YtgcieamfidoaoaaGreatDoorEbc
import Derived.Test.YtgcieamfidoaoaaGreatDoorEbj
import Derived.Deep.OwnRows
set_option linter.all false
set_option maxHeartbeats 8000000
namespace Go.Proofs.YtgcieamfidoaoaaGreatDoor
open Go.RowKit
set_option maxRecDepth 100000
section
variable {L:List Oper} {S:World→Prop} {K:List (Nat × Value)→World→Prop} {i m d:Nat} {o:Oper} {x y:Operand} {r:List (Bool × Nat × Nat)} {l:List (Nat × Value)} {w:World}
theorem wK {T:TypeId} {z:Value} (ho:Pl.nth L i=some o) (hp:o.op = .alloc T) (hd:o.dst=some d) (hg:o.guard=none) (hz:(Tryz.prog.info? T).map (fun i=>i.zero)=some (some z)) (hS:∀ Y,Ext w Y→S Y)
  (h:∀ N w',Ext w w'→w.heap.size≤N→Cb w' N T z.cells.toList→Pl.fF Tryz.prog L S K r ((d,.pointer (some ⟨N,0,none⟩))::l) w'):Pl.fF Tryz.prog L S K ((false,i,m)::r) l w:=by
 have e1:=(Ext.refl w).alloc (.cells z.cells T)
 refine Pl.CF ho hp hd (by rw [hg];rfl) (KN w T z true hz) (hS _ e1) (h _ _ e1 (Nat.le_refl _) ?_)
 have:=Cb.new w T z.cells.toList
 simpa using this
theorem wL {N:Nat} {T:TypeId} {cs new:List Value} (hC:Cb w N T cs) (ho:Pl.nth L i=some o) (hp:o.op = .store T x y) (hd:o.dst=none) (hg:o.guard=none) (hx:Pl.dK l x=some (.pointer (some ⟨N,0,none⟩))) (hy:Pl.dK l y=some (.agg new.toArray))
  (hi:(Tryz.prog.info? T).map (·.size)=some new.length) (hl:cs.length=new.length) (h1:∀ v∈new,v.oneCell'=true) (hS:S (w.setRow N new.toArray))
  (h:Pl.fF Tryz.prog L S K r l (w.setRow N new.toArray)):Pl.fF Tryz.prog L S K ((false,i,m)::r) l w :=
 Pl.eu ho hp hd (by rw [hg];rfl) hx hy (hC.store T new hi hl h1) hS h
end
theorem CW {n:Nat} {cs:List Code} {l:List (Nat × Value)} {w:World} {fn:Func} {R:Ending→World→Prop} {t:Tmp} {N:Nat} {T ty:TypeId} {vs:List Value} {d:TypeDesc} (hr:fn.results=#[.cell t ty]) (hv:Pl.look l t=some (.pointer (some ⟨N,0,none⟩)))
  (hC:Cb w N T vs) (hu:Tryz.prog.underlying ty=some d) (hd:d.isRow=true) (hi:(Tryz.prog.info? ty).map (·.size)=some vs.length) (h:R (.returned (.agg vs.toArray)) w):Pl.V Tryz.prog (bodyPost Tryz.prog fn R) n [] (.ret::cs) l w:=Pl.Ah fun a ha=>by
 refine ⟨ha.defers,_,?_,h⟩
 unfold results
 rw [hr]
 have e:a.tmps.getD t undef = .pointer (some ⟨N,0,none⟩):=by rw [Array.getD_eq_getD_getElem?,ha.look t _ hv];rfl
 have hl:=hC.load ty d hu hd hi
 simp only [Instr.loadAt,Instr.sureAddr,Sem.run_bind,Sem.run_pure,Result.andThen_ok] at hl
 simp only [List.mapM_toArray,List.mapM_cons,List.mapM_nil,e,asAddr,Sem.run_bind,Sem.run_pure,Result.andThen_ok]
 simp [hl,Sem.run_bind,Result.andThen]
theorem cK (u0 u1 v0 v1:Int) (ev:Bool):∀ c∈[Value.int .u64 u0,.int .u64 u1,.int .u64 v0,.int .u64 v1,.bool ev],wM c:=by
 intro c hc k e
 subst e
 simp at hc
theorem Vs (a b:Nat):(quo a b).length≤2*bJ b:=by
 induction b using Nat.strongRecOn generalizing a with
 | ind b ih =>
  by_cases h:b=0
  · subst h;simp [Cw]
  · have hb:1≤bJ b:=by
     have h2:=iZ b
     rcases Nat.eq_zero_or_pos (bJ b) with h0 | h0
     · rw [h0] at h2;omega
     · exact h0
    rw [uQ h,List.length_cons]
    have hm:=Nat.mod_lt a (Nat.pos_of_ne_zero h)
    by_cases h2:a%b=0
    · rw [h2,Cw];simp;omega
    · rw [uQ h2,List.length_cons]
      have h3:=Nat.mod_lt b (Nat.pos_of_ne_zero h2)
      have h4:=ih (b%(a%b)) (by omega) (a%b)
      have h5:2*(b%(a%b))<b:=by
       have h6:=Nat.div_add_mod b (a%b)
       have h7:1≤b/(a%b):=(Nat.one_le_div_iff (by omega)).2 (by omega)
       have h8:(a%b)*1≤(a%b)*(b/(a%b)):=Nat.mul_le_mul_left _ h7
       omega
      have h9:bJ (b%(a%b))+1≤bJ b:=by
       have h10:bJ (b%(a%b))≤bJ b-1:=cZ (by
        have h11:=iZ b
        have h12:2^bJ b=2*2^(bJ b-1):=by rw [Nat.mul_comm,← Nat.pow_succ];congr 1;omega
        omega)
       omega
      omega
theorem Vt {n K:Nat} (h:Sn n K):bJ n≤32*K:=cZ (by rw [Nat.pow_mul,show (2:Nat)^32=4294967296 from rfl];exact h.lt)
theorem Ev {a b:Nat} (hb:Sn b 1000):(quo a b).length≤64000:=by
 have h1:=Vs a b
 have h2:=Vt hb
 omega
theorem Gu.OM {A B u1 v1 u2 v2 x y:Nat} {e:Bool} (h:Gu A B e u1 v1 u2 v2 x y) (c1:v2≤y):v1+v2≤A∧x≤A:=by
 obtain ⟨hx,hy,TA,pos,Zd,sum,le,grow⟩:=h
 have p1:v2*1≤v2*x:=Nat.mul_le_mul_left _ (by omega)
 have p2:v1*1≤v1*y:=Nat.mul_le_mul_left _ (by omega)
 have p3:1*x≤v2*x:=Nat.mul_le_mul_right _ pos
 omega
theorem Gu.R5 {A B u1 v1 u2 v2 x y:Nat} {e:Bool} (h:Gu A B e u1 v1 u2 v2 x y):x≤A∧y≤A∧v2*x≤A:=by
 obtain ⟨hx,hy,TA,pos,Zd,sum,le,grow⟩:=h
 have p3:1*x≤v2*x:=Nat.mul_le_mul_right _ pos
 omega
theorem EC {a b A B k u0 u1 u2 v0 v1 v2 he x y:Nat} {ql:List Nat} {ev:Bool} {p:Prop} (hk:(k=0∧ql=[]∧v0=0∧p)∨(k=ql.length+1∧Gh a b A B ql ev u0 u1 u2 v0 v1 v2 he x y)) :
  (v0=0→ql=[])∧(v0≠0→ql≠[]∧(u0<4294967296∧u1<4294967296∧v0<4294967296∧v1<4294967296)∧∃ P Q,Tl a b ql ev u0 u1 v0 v1 P Q):=by
 rcases hk with ⟨_,h2,h3,_⟩ | ⟨_,hg⟩
 · exact ⟨fun _=>h2,fun h=>absurd h3 h⟩
 · exact ⟨fun h=>hg.none.1 h,fun h=>⟨fun e=>h (hg.none.2 e),⟨hg.b0.1,hg.b1.1,hg.b0.2,hg.b1.2⟩,hg.tl⟩⟩
theorem FO (w:World) (va vb:Value) (a b:Nat) (ha:Un w va a) (hb:Un w vb b) (hn:3≤(limbs a).length∧(limbs a).length≤1000000) (hba:b≤a) (hlb:Sn b 1000)
  (f:FuncId) (cap:List Value) (base:Nat) (Bs:List Nat) (Es:∀ k∈Bs,k<w.heap.size) (I:List Nat→World→Prop)
  (hen:∀ (u:Array Value) X,(callFunc f u).run Tryz.prog X = .ok (.enter f u) X)
  (hcall:∀ (l:List Nat) (q:Nat) (X:World),q<18446744073709551616→(∃ rest,quo a b=(l++[q])++rest)→I l X→Calls Tryz.prog f ([]++([Value.int .u64 (q:Int)]++cap)).toArray X fun e X'=>e = .returned (.tuple #[])∧I (l++[q]) X'∧Xc base Bs X X')
  (hI:∀ l X Y Cs,I l X→Xt Cs X Y→(∀ k∈Cs,w.heap.size≤k∧NR X k)→I l Y) (h0:I [] w) :
  Calls Tryz.prog 216 #[va,vb,.func (.func f) #[] cap.toArray] w fun e w'=>∃ ql u0 u1 v0 v1 ev,e = .returned (JS u0 u1 v0 v1 ev)∧I ql w'∧Xc base Bs w w'∧(v0=0→ql=[])∧(v0≠0→ql≠[]∧(u0<4294967296∧u1<4294967296∧v0<4294967296∧v1<4294967296)∧∃ P Q,Tl a b ql ev u0 u1 v0 v1 P Q):=by
 obtain ⟨A,hA⟩:∃ A,a/2^(32*((limbs a).length-3)+(32-(32-bJ (lb (limbs a) ((limbs a).length-1)))))=A:=⟨_,rfl⟩
 obtain ⟨B,hB⟩:∃ B,b/2^(32*((limbs a).length-3)+(32-(32-bJ (lb (limbs a) ((limbs a).length-1)))))=B:=⟨_,rfl⟩
 have hlead:=fun (X:World) (h:Ext w X)=>KT X va vb a b (Un.below ha h) (Un.below hb h) hn hba
 have hfit:=zz hn.1 rfl (Nat.le_refl a)
 have hBA:B≤A:=by rw [← hA,← hB];exact Nat.div_le_div_right hba
 have hda:=Nat.div_add_mod a (2^(32*((limbs a).length-3)+(32-(32-bJ (lb (limbs a) ((limbs a).length-1))))))
 have hdb:=Nat.div_add_mod b (2^(32*((limbs a).length-3)+(32-(32-bJ (lb (limbs a) ((limbs a).length-1))))))
 have hma:=Nat.mod_lt a (Nat.two_pow_pos (32*((limbs a).length-3)+(32-(32-bJ (lb (limbs a) ((limbs a).length-1))))))
 have hmb:=Nat.mod_lt b (Nat.two_pow_pos (32*((limbs a).length-3)+(32-(32-bJ (lb (limbs a) ((limbs a).length-1))))))
 rw [hA] at hlead hfit hda
 rw [hB] at hlead hdb
 generalize 2^(32*((limbs a).length-3)+(32-(32-bJ (lb (limbs a) ((limbs a).length-1)))))=T at *
 rw [Nat.mul_comm T] at hda hdb
 generalize a%T=a0 at *
 generalize b%T=b0 at *
 have Pq:=Ev (a:=a) hlb
 refine Pl.dF (n:=78) (vs:=[va,vb,.func (.func f) #[] cap.toArray]) Tryz.func216 rfl (by kernel_rfl) (by simp) ?_
 refine Pl.aab rfl ?_
 refine wK rfl rfl rfl rfl (z:=JS 0 0 0 0 false) (by kernel_rfl) (fun _ _=>trivial) ?_
 intro Nr w1 hB1 hNr WV
 refine Pl.aH ?_
 refine Pl.aab rfl ?_
 refine Pl.jB trivial rfl ?_
 refine Pl.bX rfl rfl rfl rfl rfl (Pl.en Tryz.func237) ?_
 refine Calls.mono (hlead w1 hB1) ?_
 rintro e w2 ⟨rfl,hB2⟩
 refine ⟨_,rfl,trivial,?_⟩
 refine Pl.jB trivial rfl ?_
 refine Pl.aH ?_
 refine Pl.aab rfl ?_
 refine Pl.fO (v:=JS 0 0 0 0 false) trivial rfl rfl rfl (fun ρ hρ X _=>by simp [go_sem]) ?_
 refine wK rfl rfl rfl rfl (z:=JS 0 0 0 0 false) (by kernel_rfl) (fun _ _=>trivial) ?_
 intro Ns w3 hB3 hNs G5
 refine wL (new:=[.int .u64 0,.int .u64 0,.int .u64 0,.int .u64 0,.bool false]) G5 rfl rfl rfl rfl rfl rfl (by kernel_rfl) rfl (by simp [Value.oneCell']) trivial ?_
 have ks4:=Cb.put G5 [.int .u64 0,.int .u64 0,.int .u64 0,.int .u64 0,.bool false]
 have YX:=Cb.other (Cb.ext (Cb.ext WV hB2) hB3) Ns ([.int .u64 0,.int .u64 0,.int .u64 0,.int .u64 0,.bool false]:List Value).toArray (by have:=(Cb.ext WV hB2).lt;omega)
 have UR:Xc base (Ns::Bs) w (w3.setRow Ns ([.int .u64 0,.int .u64 0,.int .u64 0,.int .u64 0,.bool false]:List Value).toArray):=Xc.xt <| (Xt.ext (hB1.below (hB2.below hB3))).trans (Xt.put G5 (cK 0 0 0 0 false) (by simp) _)
 have hO4:Xt [Ns] w (w3.setRow Ns ([.int .u64 0,.int .u64 0,.int .u64 0,.int .u64 0,.bool false]:List Value).toArray):=(Xt.ext (hB1.below (hB2.below hB3))).trans (Xt.put G5 (cK 0 0 0 0 false) (by simp) _)
 generalize w3.setRow Ns ([.int .u64 0,.int .u64 0,.int .u64 0,.int .u64 0,.bool false]:List Value).toArray=w4 at *
 refine Pl.aH ?_
 refine Pl.aab rfl ?_
 refine Pl.jB trivial rfl ?_
 refine Pl.aH ?_
 refine Pl.aab rfl ?_
 refine Pl.jB trivial rfl ?_
 refine Pl.aH ?_
 refine Pl.aab rfl ?_
 refine Pl.jB trivial rfl ?_
 refine Pl.aH ?_
 have hwr:w.heap.size≤Nr:=hNr
 have hws:w.heap.size≤Ns:=Nat.le_trans (hB1.below hB2).size hNs
 have hrs:Nr≠Ns:=by have:=(Cb.ext WV hB2).lt;omega
 refine Pl.lM [(2,.func (.func f) #[] cap.toArray),(6,.pointer (some ⟨Nr,0,none⟩)),(9,.pointer (some ⟨Ns,0,none⟩)),(7,.int .u64 (A:Int)),(8,.int .u64 (B:Int)),(10,.int .u64 (((0:Nat):Int):Int)),(11,.int .u64 (((1:Nat):Int):Int)),(12,.int .u64 (((0:Nat):Int):Int)),(13,.int .u64 (((0:Nat):Int):Int)),(14,.int .u64 (((0:Nat):Int):Int)),(15,.int .u64 (((1:Nat):Int):Int)),(16,.int .u64 (((0:Nat):Int):Int)),(17,.int .i64 (((0:Nat):Int):Int))] (Pl.aj rfl (Pl.aj rfl (Pl.aj rfl (Pl.aj rfl (Pl.aj rfl (Pl.aj rfl (Pl.aj rfl (Pl.aj rfl (Pl.aj rfl (Pl.aj rfl (Pl.aj rfl (Pl.aj rfl (Pl.aj rfl Pl.dQ))))))))))))) ?_
 repeat refine Pl.aG ?_
 refine Pl.ko ?_
 repeat refine Pl.aG ?_
 refine Pl.tN (fun m l' w'=>∃ (k x y u0 u1 u2 v0 v1 v2 he:Nat) (ev:Bool) (ql:List Nat),m=y∧Gu A B (!ev) u1 v1 u2 v2 x y∧((k=0∧ql=[]∧v0=0∧ev=false∧u1=1∧v1=0∧u2=0∧v2=1∧x=A∧y=B)∨(k=ql.length+1∧Gh a b A B ql ev u0 u1 u2 v0 v1 v2 he x y))∧k≤100000∧he<18446744073709551616∧I ql w'∧Xc base (Ns::Bs) w w'∧Cb w' Ns 208 [.int .u64 0,.int .u64 0,.int .u64 0,.int .u64 0,.bool ev]∧Cb w' Nr 208 [.int .u64 0,.int .u64 0,.int .u64 0,.int .u64 0,.bool false]∧l'=[(2,.func (.func f) #[] cap.toArray),(6,.pointer (some ⟨Nr,0,none⟩)),(9,.pointer (some ⟨Ns,0,none⟩)),(7,.int .u64 (x:Int)),(8,.int .u64 (y:Int)),(10,.int .u64 (u0:Int)),(11,.int .u64 (u1:Int)),(12,.int .u64 (u2:Int)),(13,.int .u64 (v0:Int)),(14,.int .u64 (v1:Int)),(15,.int .u64 (v2:Int)),(16,.int .u64 (he:Int)),(17,.int .i64 (k:Int))]) B ⟨0,A,B,0,1,0,0,0,1,0,false,[],rfl,Gu.first hBA,.inl ⟨rfl,rfl,rfl,rfl,rfl,rfl,rfl,rfl,rfl,rfl⟩,by omega,by omega,hI _ _ _ _ h0 hO4 (by simp;exact ⟨hws,NR.out hws⟩),UR,ks4,YX,rfl⟩ ?_
 rintro y _ W ⟨k,x,_,u0,u1,u2,v0,v1,v2,he,ev,ql,rfl,hgu,hk,hkb,hhe,hIl,hX,ks,kr,rfl⟩
 have hle:=hgu.le
 have hxA:=hgu.R5
 by_cases c1:v2≤y
 · have hs1:=hgu.OM c1
   by_cases c2:v1+v2≤x-y
   · have hsm:=hgu.small hfit c1 c2
     have hnx:=hgu.next c1
     have hl2:=hnx.TA
     have hg0:=hgu.TA
     have hps:=hgu.pos
     refine Pl.aab rfl ?_
     refine Pl.jB trivial rfl ?_
     refine Pl.bn (v:=.bool true) trivial rfl rfl rfl rfl rfl rfl (fun X=>Je (decide_eq_true (by omega)) X) ?_
     refine Pl.jB trivial rfl ?_
     refine Pl.bn (v:=.int .u64 ((x-y:Nat):Int)) trivial rfl rfl rfl rfl rfl rfl (fun X=>Xi hle rfl (by omega) X) ?_
     refine Pl.jB trivial rfl ?_
     refine Pl.bn (v:=.int .u64 ((v1+v2:Nat):Int)) trivial rfl rfl rfl rfl rfl rfl (fun X=>qF rfl (by omega) X) ?_
     refine Pl.bn (v:=.bool true) trivial rfl rfl rfl rfl rfl rfl (fun X=>Je (decide_eq_true (by omega)) X) ?_
     refine Pl.jB trivial rfl ?_
     refine Pl.aH ?_
     repeat refine Pl.aG ?_
     refine Pl.jV rfl ?_
     repeat refine Pl.aG ?_
     refine Pl.iT ?_
     repeat refine Pl.aG ?_
     refine Pl.ko ?_
     rcases hk with ⟨rfl,rfl,rfl,rfl,hu1,hv1,hu2,hv2,hx,hy⟩ | ⟨rfl,hg⟩
     · refine Pl.aab rfl ?_
       refine Pl.jB trivial rfl ?_
       refine Pl.bn (v:=.bool false) trivial rfl rfl rfl rfl rfl rfl (fun X=>yc (decide_eq_false (by decide)) X) ?_
       refine Pl.aH ?_
       repeat refine Pl.aG ?_
       refine Pl.gX rfl ?_
       repeat refine Pl.aG ?_
       refine Pl.iT ?_
       have hX2:=hX
       have hI2:=hIl
       have ks2:=ks
       have kr2:=kr
       obtain ⟨W2,hW2⟩:∃ W2,W2=W:=⟨_,rfl⟩
       rw [← hW2] at hX2 hI2 ks2 kr2 ⊢
       have hg2:Gh a b A B [] true u1 u2 (u1+x/y*u2) v1 v2 (v1+x/y*v2) (x/y) y (x%y):=by rw [hu1,hv1,hu2,hv2,hx,hy];rw [hv2,hy] at c1;rw [hv1,hv2,hx,hy] at c2;exact Gh.first (T:=T) (a0:=a0) (b0:=b0) hBA hfit c1 (by omega)
       refine Pl.aab rfl ?_
       refine Pl.jB trivial rfl ?_
       refine Pl.bn (v:=.int .u64 ((x/y:Nat):Int)) trivial rfl rfl rfl rfl rfl rfl (fun X=>Xh (by omega) (by omega) X) ?_
       refine Pl.jB trivial rfl ?_
       refine Pl.aH ?_
       repeat refine Pl.aG ?_
       refine Pl.qc (S:=fun _=>True) [(true,0,0),(true,1,1),(true,2,3),(true,3,7),(true,4,15),(true,5,31)] fo (by repeat first | exact Pl.gQ | refine Pl.CO ?_ | refine Pl.F4 ?_ | refine Pl.Xk ?_) (by kernel_rfl) trivial ?_
       have hB3:=Ext.drew (Ext.refl W2)
       have Zh:=hX2.trans (Xc.ext hB3)
       have sj:=hI _ _ _ [] hI2 (Xt.ext hB3) (by simp)
       have G5:=Cb.ext ks2 hB3
       have WW:=Cb.ext kr2 hB3
       generalize W2.drew=W3 at *
       intro _
       refine Pl.jB trivial rfl ?_
       refine Pl.bn (v:=.int .u64 ((x%y:Nat):Int)) trivial rfl rfl rfl rfl rfl rfl (fun X=>RQ (by omega) (by omega) X) ?_
       refine Pl.jB trivial rfl ?_
       refine Pl.aH ?_
       have XM:x/y*u2<18446744073709551616∧x/y*v2<18446744073709551616:=by omega
       refine Pl.aab rfl ?_
       refine Pl.jB trivial rfl ?_
       refine Pl.bn (v:=.int .u64 ((x/y*u2:Nat):Int)) trivial rfl rfl rfl rfl rfl rfl (fun X=>vS rfl XM.1 X) ?_
       refine Pl.bn (v:=.int .u64 ((u1+x/y*u2:Nat):Int)) trivial rfl rfl rfl rfl rfl rfl (fun X=>qF rfl (by omega) X) ?_
       refine Pl.jB trivial rfl ?_
       refine Pl.aH ?_
       refine Pl.aab rfl ?_
       refine Pl.jB trivial rfl ?_
       refine Pl.bn (v:=.int .u64 ((x/y*v2:Nat):Int)) trivial rfl rfl rfl rfl rfl rfl (fun X=>vS rfl XM.2 X) ?_
       refine Pl.bn (v:=.int .u64 ((v1+x/y*v2:Nat):Int)) trivial rfl rfl rfl rfl rfl rfl (fun X=>qF rfl (by omega) X) ?_
       refine Pl.jB trivial rfl ?_
       refine Pl.aH ?_
       refine Pl.aab rfl ?_
       refine dR trivial rfl rfl rfl rfl rfl (qI _) ?_
       refine Pl.aY trivial rfl rfl rfl rfl rfl (Cb.F8 G5 (j:=4) rfl) ?_
       refine Pl.IL (v:=.bool (!false)) trivial rfl rfl rfl rfl rfl (fun X=>by go_simp) ?_
       refine dR trivial rfl rfl rfl rfl rfl (qI _) ?_
       refine Pl.eu rfl rfl rfl rfl rfl rfl (Cb.EB (j:=4) G5 rfl (!false)) trivial ?_
       have UR:=Zh.trans (Xc.xt <| Xt.set (Bs:=Ns::Bs) G5 (cK _ _ _ _ _) (by simp) 4 (.bool (!false)))
       have hI4:=hI _ _ _ _ sj (Xt.set (Bs:=[Ns]) G5 (cK _ _ _ _ _) (by simp) 4 (.bool (!false))) (by simp;exact ⟨hws,NR.of G5 (by decide)⟩)
       have YX:=Cb.setOther WW Ns 4 (.bool (!false)) hrs
       have ks4:=Cb.set G5 4 (.bool (!false))
       generalize W3.setCell ⟨Ns,4,none⟩ (.bool (!false))=W4 at *
       refine Pl.aH ?_
       refine Pl.iU ?_
       refine Pl.aab rfl ?_
       refine Pl.jB trivial rfl ?_
       refine Pl.bn (v:=.int .i64 (((0:Nat)+1:Nat):Int)) trivial rfl rfl rfl rfl rfl rfl (fun X=>CL (by omega) (by omega) (by omega) X) ?_
       refine Pl.jB trivial rfl ?_
       refine Pl.aH ?_
       exact Pl.nD [(2,.func (.func f) #[] cap.toArray),(6,.pointer (some ⟨Nr,0,none⟩)),(9,.pointer (some ⟨Ns,0,none⟩)),(7,.int .u64 (y:Int)),(8,.int .u64 (((x%y:Nat):Int):Int)),(10,.int .u64 (u1:Int)),(11,.int .u64 (u2:Int)),(12,.int .u64 (((u1+x/y*u2:Nat):Int):Int)),(13,.int .u64 (v1:Int)),(14,.int .u64 (v2:Int)),(15,.int .u64 (((v1+x/y*v2:Nat):Int):Int)),(16,.int .u64 (((x/y:Nat):Int):Int)),(17,.int .i64 ((((0:Nat)+1:Nat):Int):Int))] (Pl.aj rfl (Pl.aj rfl (Pl.aj rfl (Pl.aj rfl (Pl.aj rfl (Pl.aj rfl (Pl.aj rfl (Pl.aj rfl (Pl.aj rfl (Pl.aj rfl (Pl.aj rfl (Pl.aj rfl (Pl.aj rfl Pl.dQ))))))))))))) (Nat.mod_lt x (by omega)) ⟨(0:Nat)+1,y,x%y,u1,u2,u1+x/y*u2,v1,v2,v1+x/y*v2,x/y,true,[],rfl,hnx,.inr ⟨rfl,hg2⟩,by omega,Nat.lt_of_le_of_lt (Nat.div_le_self _ _) (by omega),hI4,UR,ks4,YX,rfl⟩
     · refine Pl.aab rfl ?_
       refine Pl.jB trivial rfl ?_
       refine Pl.bn (v:=.bool true) trivial rfl rfl rfl rfl rfl rfl (fun X=>yc (decide_eq_true (by omega)) X) ?_
       refine Pl.aH ?_
       repeat refine Pl.aG ?_
       refine Pl.jV rfl ?_
       have hg2:=hg.next hda.symm hdb.symm hma hmb hfit c1 c2
       have hpre:∃ rest,quo a b=(ql++[he])++rest:=by obtain ⟨P,Q,ht⟩:=hg2.tl;exact ⟨_,ht.told⟩
       refine Pl.aab rfl ?_
       refine Pl.jB trivial rfl ?_
       refine Pl.gY rfl rfl rfl rfl rfl rfl hen ?_
       refine Calls.mono (hcall ql he W hhe hpre hIl) ?_
       rintro e W2 ⟨rfl,hI2,hX2⟩
       refine ⟨_,rfl,trivial,?_⟩
       refine Pl.aH ?_
       have ks2:=hX2.cb ks (fun hb=>by have:=Es _ hb;omega) (.inr (by decide))
       have kr2:=hX2.cb kr (fun hb=>by have:=Es _ hb;omega) (.inr (by decide))
       have hX2:=hX.trans (hX2.mono (Cs:=Ns::Bs) fun k hk=>List.mem_cons_of_mem _ hk)
       have hk2:ql.length+1≤64000:=by obtain ⟨rest,hr⟩:=hpre;rw [hr] at Pq;simp at Pq;omega
       refine Pl.aab rfl ?_
       refine Pl.jB trivial rfl ?_
       refine Pl.bn (v:=.int .u64 ((x/y:Nat):Int)) trivial rfl rfl rfl rfl rfl rfl (fun X=>Xh (by omega) (by omega) X) ?_
       refine Pl.jB trivial rfl ?_
       refine Pl.aH ?_
       repeat refine Pl.aG ?_
       refine Pl.qc (S:=fun _=>True) [(true,0,0),(true,1,1),(true,2,3),(true,3,7),(true,4,15),(true,5,31)] fo (by repeat first | exact Pl.gQ | refine Pl.CO ?_ | refine Pl.F4 ?_ | refine Pl.Xk ?_) (by kernel_rfl) trivial ?_
       have hB3:=Ext.drew (Ext.refl W2)
       have Zh:=hX2.trans (Xc.ext hB3)
       have sj:=hI _ _ _ [] hI2 (Xt.ext hB3) (by simp)
       have G5:=Cb.ext ks2 hB3
       have WW:=Cb.ext kr2 hB3
       generalize W2.drew=W3 at *
       intro _
       refine Pl.jB trivial rfl ?_
       refine Pl.bn (v:=.int .u64 ((x%y:Nat):Int)) trivial rfl rfl rfl rfl rfl rfl (fun X=>RQ (by omega) (by omega) X) ?_
       refine Pl.jB trivial rfl ?_
       refine Pl.aH ?_
       have XM:x/y*u2<18446744073709551616∧x/y*v2<18446744073709551616:=by omega
       refine Pl.aab rfl ?_
       refine Pl.jB trivial rfl ?_
       refine Pl.bn (v:=.int .u64 ((x/y*u2:Nat):Int)) trivial rfl rfl rfl rfl rfl rfl (fun X=>vS rfl XM.1 X) ?_
       refine Pl.bn (v:=.int .u64 ((u1+x/y*u2:Nat):Int)) trivial rfl rfl rfl rfl rfl rfl (fun X=>qF rfl (by omega) X) ?_
       refine Pl.jB trivial rfl ?_
       refine Pl.aH ?_
       refine Pl.aab rfl ?_
       refine Pl.jB trivial rfl ?_
       refine Pl.bn (v:=.int .u64 ((x/y*v2:Nat):Int)) trivial rfl rfl rfl rfl rfl rfl (fun X=>vS rfl XM.2 X) ?_
       refine Pl.bn (v:=.int .u64 ((v1+x/y*v2:Nat):Int)) trivial rfl rfl rfl rfl rfl rfl (fun X=>qF rfl (by omega) X) ?_
       refine Pl.jB trivial rfl ?_
       refine Pl.aH ?_
       refine Pl.aab rfl ?_
       refine dR trivial rfl rfl rfl rfl rfl (qI _) ?_
       refine Pl.aY trivial rfl rfl rfl rfl rfl (Cb.F8 G5 (j:=4) rfl) ?_
       refine Pl.IL (v:=.bool (!ev)) trivial rfl rfl rfl rfl rfl (fun X=>by go_simp) ?_
       refine dR trivial rfl rfl rfl rfl rfl (qI _) ?_
       refine Pl.eu rfl rfl rfl rfl rfl rfl (Cb.EB (j:=4) G5 rfl (!ev)) trivial ?_
       have UR:=Zh.trans (Xc.xt <| Xt.set (Bs:=Ns::Bs) G5 (cK _ _ _ _ _) (by simp) 4 (.bool (!ev)))
       have hI4:=hI _ _ _ _ sj (Xt.set (Bs:=[Ns]) G5 (cK _ _ _ _ _) (by simp) 4 (.bool (!ev))) (by simp;exact ⟨hws,NR.of G5 (by decide)⟩)
       have YX:=Cb.setOther WW Ns 4 (.bool (!ev)) hrs
       have ks4:=Cb.set G5 4 (.bool (!ev))
       generalize W3.setCell ⟨Ns,4,none⟩ (.bool (!ev))=W4 at *
       refine Pl.aH ?_
       refine Pl.iU ?_
       refine Pl.aab rfl ?_
       refine Pl.jB trivial rfl ?_
       refine Pl.bn (v:=.int .i64 (((ql.length+1)+1:Nat):Int)) trivial rfl rfl rfl rfl rfl rfl (fun X=>CL (by omega) (by omega) (by omega) X) ?_
       refine Pl.jB trivial rfl ?_
       refine Pl.aH ?_
       exact Pl.nD [(2,.func (.func f) #[] cap.toArray),(6,.pointer (some ⟨Nr,0,none⟩)),(9,.pointer (some ⟨Ns,0,none⟩)),(7,.int .u64 (y:Int)),(8,.int .u64 (((x%y:Nat):Int):Int)),(10,.int .u64 (u1:Int)),(11,.int .u64 (u2:Int)),(12,.int .u64 (((u1+x/y*u2:Nat):Int):Int)),(13,.int .u64 (v1:Int)),(14,.int .u64 (v2:Int)),(15,.int .u64 (((v1+x/y*v2:Nat):Int):Int)),(16,.int .u64 (((x/y:Nat):Int):Int)),(17,.int .i64 ((((ql.length+1)+1:Nat):Int):Int))] (Pl.aj rfl (Pl.aj rfl (Pl.aj rfl (Pl.aj rfl (Pl.aj rfl (Pl.aj rfl (Pl.aj rfl (Pl.aj rfl (Pl.aj rfl (Pl.aj rfl (Pl.aj rfl (Pl.aj rfl (Pl.aj rfl Pl.dQ))))))))))))) (Nat.mod_lt x (by omega)) ⟨(ql.length+1)+1,y,x%y,u1,u2,u1+x/y*u2,v1,v2,v1+x/y*v2,x/y,(!ev),(ql++[he]),rfl,hnx,.inr ⟨by simp,hg2⟩,by omega,Nat.lt_of_le_of_lt (Nat.div_le_self _ _) (by omega),hI4,UR,ks4,YX,rfl⟩
   · refine Pl.aab rfl ?_
     refine Pl.jB trivial rfl ?_
     refine Pl.bn (v:=.bool true) trivial rfl rfl rfl rfl rfl rfl (fun X=>Je (decide_eq_true (by omega)) X) ?_
     refine Pl.jB trivial rfl ?_
     refine Pl.bn (v:=.int .u64 ((x-y:Nat):Int)) trivial rfl rfl rfl rfl rfl rfl (fun X=>Xi hle rfl (by omega) X) ?_
     refine Pl.jB trivial rfl ?_
     refine Pl.bn (v:=.int .u64 ((v1+v2:Nat):Int)) trivial rfl rfl rfl rfl rfl rfl (fun X=>qF rfl (by omega) X) ?_
     refine Pl.bn (v:=.bool false) trivial rfl rfl rfl rfl rfl rfl (fun X=>Je (decide_eq_false (by omega)) X) ?_
     refine Pl.jB trivial rfl ?_
     refine Pl.aH ?_
     repeat refine Pl.aG ?_
     refine Pl.gX rfl ?_
     repeat refine Pl.aG ?_
     refine Pl.tO ?_
     have hY:Xt [Ns,Nr] W W:=Xt.refl _ _
     obtain ⟨W0,hW0⟩:∃ W0,W0=W:=⟨_,rfl⟩
     have ks0:=ks
     have kr0:=kr
     rw [← hW0] at hIl ks0 kr0
     have hY:Xt [Ns,Nr] W0 W:=by rw [hW0];exact Xt.refl _ _
     clear hW0
     refine Pl.aab rfl ?_
     refine Pl.jB trivial rfl ?_
     refine dR trivial rfl rfl rfl rfl rfl (tZ _) ?_
     refine Pl.eu rfl rfl rfl rfl rfl rfl (Cb.storeU64 (j:=0) ks rfl (u0:Int)) trivial ?_
     have hX:=hX.trans (Xc.xt <| Xt.set (Bs:=Ns::Bs) ks (cK _ _ _ _ _) (by simp) 0 (.int .u64 (u0:Int)))
     have hY:=hY.trans (Xt.set (Bs:=[Ns,Nr]) ks (cK _ _ _ _ _) (by simp) 0 (.int .u64 (u0:Int)))
     have kr:=Cb.setOther kr Ns 0 (.int .u64 (u0:Int)) hrs
     replace ks:=Cb.set ks 0 (.int .u64 (u0:Int))
     generalize W.setCell ⟨Ns,0,none⟩ (.int .u64 (u0:Int))=W at *
     refine dR trivial rfl rfl rfl rfl rfl (uf _) ?_
     refine Pl.eu rfl rfl rfl rfl rfl rfl (Cb.storeU64 (j:=1) ks rfl (u1:Int)) trivial ?_
     have hX:=hX.trans (Xc.xt <| Xt.set (Bs:=Ns::Bs) ks (cK _ _ _ _ _) (by simp) 1 (.int .u64 (u1:Int)))
     have hY:=hY.trans (Xt.set (Bs:=[Ns,Nr]) ks (cK _ _ _ _ _) (by simp) 1 (.int .u64 (u1:Int)))
     have kr:=Cb.setOther kr Ns 1 (.int .u64 (u1:Int)) hrs
     replace ks:=Cb.set ks 1 (.int .u64 (u1:Int))
     generalize W.setCell ⟨Ns,1,none⟩ (.int .u64 (u1:Int))=W at *
     refine dR trivial rfl rfl rfl rfl rfl (qH _) ?_
     refine Pl.eu rfl rfl rfl rfl rfl rfl (Cb.storeU64 (j:=2) ks rfl (v0:Int)) trivial ?_
     have hX:=hX.trans (Xc.xt <| Xt.set (Bs:=Ns::Bs) ks (cK _ _ _ _ _) (by simp) 2 (.int .u64 (v0:Int)))
     have hY:=hY.trans (Xt.set (Bs:=[Ns,Nr]) ks (cK _ _ _ _ _) (by simp) 2 (.int .u64 (v0:Int)))
     have kr:=Cb.setOther kr Ns 2 (.int .u64 (v0:Int)) hrs
     replace ks:=Cb.set ks 2 (.int .u64 (v0:Int))
     generalize W.setCell ⟨Ns,2,none⟩ (.int .u64 (v0:Int))=W at *
     refine dR trivial rfl rfl rfl rfl rfl (ug _) ?_
     refine Pl.eu rfl rfl rfl rfl rfl rfl (Cb.storeU64 (j:=3) ks rfl (v1:Int)) trivial ?_
     have hX:=hX.trans (Xc.xt <| Xt.set (Bs:=Ns::Bs) ks (cK _ _ _ _ _) (by simp) 3 (.int .u64 (v1:Int)))
     have hY:=hY.trans (Xt.set (Bs:=[Ns,Nr]) ks (cK _ _ _ _ _) (by simp) 3 (.int .u64 (v1:Int)))
     have kr:=Cb.setOther kr Ns 3 (.int .u64 (v1:Int)) hrs
     replace ks:=Cb.set ks 3 (.int .u64 (v1:Int))
     generalize W.setCell ⟨Ns,3,none⟩ (.int .u64 (v1:Int))=W at *
     refine Pl.aH ?_
     have ks:Cb W Ns 208 [.int .u64 (u0:Int),.int .u64 (u1:Int),.int .u64 (v0:Int),.int .u64 (v1:Int),.bool ev]:=ks
     refine Pl.aab rfl ?_
     refine Pl.aY trivial rfl rfl rfl rfl rfl (Cb.load ks _ _ rfl rfl (by kernel_rfl)) ?_
     refine wL (new:=[.int .u64 (u0:Int),.int .u64 (u1:Int),.int .u64 (v0:Int),.int .u64 (v1:Int),.bool ev]) kr rfl rfl rfl rfl rfl rfl (by kernel_rfl) rfl (by simp [Value.oneCell']) trivial ?_
     refine Pl.aH ?_
     have hX:=(hX.mono (Cs:=Nr::Ns::Bs) (fun k hk=>List.mem_cons_of_mem _ hk)).trans (Xc.xt <| Xt.put kr (cK _ _ _ _ _) (by simp) ([.int .u64 (u0:Int),.int .u64 (u1:Int),.int .u64 (v0:Int),.int .u64 (v1:Int),.bool ev]:List Value).toArray)
     have hY:=hY.trans (Xt.put kr (cK _ _ _ _ _) (by simp) ([.int .u64 (u0:Int),.int .u64 (u1:Int),.int .u64 (v0:Int),.int .u64 (v1:Int),.bool ev]:List Value).toArray)
     have kr:=Cb.put kr [.int .u64 (u0:Int),.int .u64 (u1:Int),.int .u64 (v0:Int),.int .u64 (v1:Int),.bool ev]
     refine CW rfl rfl kr rfl rfl (by kernel_rfl) ⟨ql,u0,u1,v0,v1,ev,rfl,hI _ _ _ _ hIl hY (by simp;exact ⟨⟨hws,NR.of ks0 (by decide)⟩,⟨hwr,NR.of kr0 (by decide)⟩⟩),hX.drop (by simp;exact ⟨.inr hwr,.inr hws,fun k hk=>.inl hk⟩),EC hk⟩
 · refine Pl.aab rfl ?_
   refine Pl.jB trivial rfl ?_
   refine Pl.bn (v:=.bool false) trivial rfl rfl rfl rfl rfl rfl (fun X=>Je (decide_eq_false (by omega)) X) ?_
   refine Pl.jB trivial rfl ?_
   refine Pl.aH ?_
   repeat refine Pl.aG ?_
   refine Pl.gX rfl ?_
   repeat refine Pl.aG ?_
   refine Pl.tO ?_
   have hY:Xt [Ns,Nr] W W:=Xt.refl _ _
   obtain ⟨W0,hW0⟩:∃ W0,W0=W:=⟨_,rfl⟩
   have ks0:=ks
   have kr0:=kr
   rw [← hW0] at hIl ks0 kr0
   have hY:Xt [Ns,Nr] W0 W:=by rw [hW0];exact Xt.refl _ _
   clear hW0
   refine Pl.aab rfl ?_
   refine Pl.jB trivial rfl ?_
   refine dR trivial rfl rfl rfl rfl rfl (tZ _) ?_
   refine Pl.eu rfl rfl rfl rfl rfl rfl (Cb.storeU64 (j:=0) ks rfl (u0:Int)) trivial ?_
   have hX:=hX.trans (Xc.xt <| Xt.set (Bs:=Ns::Bs) ks (cK _ _ _ _ _) (by simp) 0 (.int .u64 (u0:Int)))
   have hY:=hY.trans (Xt.set (Bs:=[Ns,Nr]) ks (cK _ _ _ _ _) (by simp) 0 (.int .u64 (u0:Int)))
   have kr:=Cb.setOther kr Ns 0 (.int .u64 (u0:Int)) hrs
   replace ks:=Cb.set ks 0 (.int .u64 (u0:Int))
   generalize W.setCell ⟨Ns,0,none⟩ (.int .u64 (u0:Int))=W at *
   refine dR trivial rfl rfl rfl rfl rfl (uf _) ?_
   refine Pl.eu rfl rfl rfl rfl rfl rfl (Cb.storeU64 (j:=1) ks rfl (u1:Int)) trivial ?_
   have hX:=hX.trans (Xc.xt <| Xt.set (Bs:=Ns::Bs) ks (cK _ _ _ _ _) (by simp) 1 (.int .u64 (u1:Int)))
   have hY:=hY.trans (Xt.set (Bs:=[Ns,Nr]) ks (cK _ _ _ _ _) (by simp) 1 (.int .u64 (u1:Int)))
   have kr:=Cb.setOther kr Ns 1 (.int .u64 (u1:Int)) hrs
   replace ks:=Cb.set ks 1 (.int .u64 (u1:Int))
   generalize W.setCell ⟨Ns,1,none⟩ (.int .u64 (u1:Int))=W at *
   refine dR trivial rfl rfl rfl rfl rfl (qH _) ?_
   refine Pl.eu rfl rfl rfl rfl rfl rfl (Cb.storeU64 (j:=2) ks rfl (v0:Int)) trivial ?_
   have hX:=hX.trans (Xc.xt <| Xt.set (Bs:=Ns::Bs) ks (cK _ _ _ _ _) (by simp) 2 (.int .u64 (v0:Int)))
   have hY:=hY.trans (Xt.set (Bs:=[Ns,Nr]) ks (cK _ _ _ _ _) (by simp) 2 (.int .u64 (v0:Int)))
   have kr:=Cb.setOther kr Ns 2 (.int .u64 (v0:Int)) hrs
   replace ks:=Cb.set ks 2 (.int .u64 (v0:Int))
   generalize W.setCell ⟨Ns,2,none⟩ (.int .u64 (v0:Int))=W at *
   refine dR trivial rfl rfl rfl rfl rfl (ug _) ?_
   refine Pl.eu rfl rfl rfl rfl rfl rfl (Cb.storeU64 (j:=3) ks rfl (v1:Int)) trivial ?_
   have hX:=hX.trans (Xc.xt <| Xt.set (Bs:=Ns::Bs) ks (cK _ _ _ _ _) (by simp) 3 (.int .u64 (v1:Int)))
   have hY:=hY.trans (Xt.set (Bs:=[Ns,Nr]) ks (cK _ _ _ _ _) (by simp) 3 (.int .u64 (v1:Int)))
   have kr:=Cb.setOther kr Ns 3 (.int .u64 (v1:Int)) hrs
   replace ks:=Cb.set ks 3 (.int .u64 (v1:Int))
   generalize W.setCell ⟨Ns,3,none⟩ (.int .u64 (v1:Int))=W at *
   refine Pl.aH ?_
   have ks:Cb W Ns 208 [.int .u64 (u0:Int),.int .u64 (u1:Int),.int .u64 (v0:Int),.int .u64 (v1:Int),.bool ev]:=ks
   refine Pl.aab rfl ?_
   refine Pl.aY trivial rfl rfl rfl rfl rfl (Cb.load ks _ _ rfl rfl (by kernel_rfl)) ?_
   refine wL (new:=[.int .u64 (u0:Int),.int .u64 (u1:Int),.int .u64 (v0:Int),.int .u64 (v1:Int),.bool ev]) kr rfl rfl rfl rfl rfl rfl (by kernel_rfl) rfl (by simp [Value.oneCell']) trivial ?_
   refine Pl.aH ?_
   have hX:=(hX.mono (Cs:=Nr::Ns::Bs) (fun k hk=>List.mem_cons_of_mem _ hk)).trans (Xc.xt <| Xt.put kr (cK _ _ _ _ _) (by simp) ([.int .u64 (u0:Int),.int .u64 (u1:Int),.int .u64 (v0:Int),.int .u64 (v1:Int),.bool ev]:List Value).toArray)
   have hY:=hY.trans (Xt.put kr (cK _ _ _ _ _) (by simp) ([.int .u64 (u0:Int),.int .u64 (u1:Int),.int .u64 (v0:Int),.int .u64 (v1:Int),.bool ev]:List Value).toArray)
   have kr:=Cb.put kr [.int .u64 (u0:Int),.int .u64 (u1:Int),.int .u64 (v0:Int),.int .u64 (v1:Int),.bool ev]
   refine CW rfl rfl kr rfl rfl (by kernel_rfl) ⟨ql,u0,u1,v0,v1,ev,rfl,hI _ _ _ _ hIl hY (by simp;exact ⟨⟨hws,NR.of ks0 (by decide)⟩,⟨hwr,NR.of kr0 (by decide)⟩⟩),hX.drop (by simp;exact ⟨.inr hwr,.inr hws,fun k hk=>.inl hk⟩),EC hk⟩
end Go.Proofs.YtgcieamfidoaoaaGreatDoor
/- Own rows of limbs. -/
namespace Go.Proofs.YtgcieamfidoaoaaGreatDoor
open Go.RowKit
set_option maxRecDepth 100000
def cu (o:List Nat):List Value:=o.map fun (x:Nat)=>Value.int .u32 (x:Int)
theorem Xo {o:List Nat} {j:Nat} (h:j<o.length):(cu o)[j]?=some (.int .u32 (lb o j:Nat)):=by simp [cu,lb,h]
theorem Zi (o:List Nat) (j x:Nat):(cu o).set j (.int .u32 (x:Int))=cu (o.set j x):=by simp [cu,List.map_set]
theorem Cb.row {w:World} {N:Nat} {o:List Nat} (h:Cb w N 57 (cu o)) (hx:∀ x∈o,x<4294967296) (hl:o.length≤9223372036854775807):U w (.slice (some ⟨N,0,none⟩) o.length o.length) o :=
 ⟨_,_,rfl,⟨Nat.le_refl _,hl⟩,hx,fun h0=>⟨⟨N,0,none⟩,rfl,h.lt,fun j hj=>by
  rw [Addr.add_mid,Nat.zero_add]
  exact h.cellAt (Xo hj)⟩⟩
section
variable {L:List Oper} {S:World→Prop} {K:List (Nat × Value)→World→Prop} {k:Bool} {i m d:Nat} {o:Oper} {x y:Operand} {r:List (Bool × Nat × Nat)} {l:List (Nat × Value)} {w:World}
theorem Xp {n:Nat} {z:Int} (hz:z=(n:Int)) (ho:Pl.nth L i=some o) (hp:o.op = .makeSlice 24 x y) (hd:o.dst=some d) (hg:Pl.gd L l o.guard=some true) (hx:Pl.dK l x=some (.int .i64 z)) (hy:Pl.dK l y=some (.int .i64 z)) (hn:n≤1000000000)
  (hS:∀ Y,Ext w Y→S Y) (h:∀ N w',Ext w w'→w.heap.size≤N→Cb w' N 57 (cu (List.replicate n 0))→Pl.fF Tryz.prog L S K r ((d,.slice (some ⟨N,0,none⟩) n n)::l) w'):Pl.fF Tryz.prog L S K ((false,i,m)::r) l w:=by
 subst hz
 have afh:(Tryz.prog.info? 57).map (fun i=>(i.zero,i.size,i.bytes))=some (some (.int .u32 0),1,4):=by kernel_rfl
 have hr:=run_make_row' (P:=Tryz.prog) 24 57 (.int .u32 0) 4 (by kernel_rfl) afh rfl .i64 .i64 n (by omega) (by omega) w
 have e1:=(Ext.refl w).alloc (.cells (madeCells #[.int .u32 0] n) 57)
 have hm:madeCells #[Value.int .u32 0] n=(cu (List.replicate n 0)).toArray:=by
  apply Array.ext
  · simp [madeCells,cu]
  · intro j h1 h2
    simp [madeCells,cu,Nat.mod_one]
 refine Pl.kP (w':=w.alloc (.cells (madeCells #[.int .u32 0] n) 57)) (v:=.slice (some ⟨w.heap.size,0,none⟩) n n) ho hd hg (fun ρ hρ=>?_) (hS _ e1) (h _ _ e1 (Nat.le_refl _) ?_)
 · unfold execOp;rw [hp]
   refine Pl.tV _ ?_
   rw [hρ.dK hx,hρ.dK hy]
   exact hr
 · rw [hm];exact Cb.new w _ _
theorem R6 {t:Array TypeId} {a b:Int} (hS:S w) (ho:Pl.nth L i=some o) (hop:o.op = .call { callee:=.builtin .max,args:=#[x,y],argTypes:=t }) (hd:o.dst=some d) (hg:Pl.gd L l o.guard=some true) (hx:Pl.dK l x=some (.int .i64 a)) (hy:Pl.dK l y=some (.int .i64 b))
  (h:Pl.fF Tryz.prog L S K r ((d,.int .i64 (if b>a then b else a))::l) w):Pl.fF Tryz.prog L S K ((k,i,m)::r) l w :=
 Pl.fO hS ho hd hg (fun ρ hρ X _=>by
  unfold execOp;rw [hop]
  refine Pl.dI (Builtin.max_ _ _ (#[x,y].map ρ)) X ?_
  rw [show #[x,y].map ρ=#[.int .i64 a,.int .i64 b] from by simp [hρ.dK hx,hρ.dK hy]]
  exact run_max_int2 _ _ _ _ _ _ _) h
theorem Y0 {t:Array TypeId} {a b:Int} (hS:S w) (ho:Pl.nth L i=some o) (hop:o.op = .call { callee:=.builtin .min,args:=#[x,y],argTypes:=t }) (hd:o.dst=some d) (hg:Pl.gd L l o.guard=some true) (hx:Pl.dK l x=some (.int .i64 a)) (hy:Pl.dK l y=some (.int .i64 b))
  (h:Pl.fF Tryz.prog L S K r ((d,.int .i64 (if b<a then b else a))::l) w):Pl.fF Tryz.prog L S K ((k,i,m)::r) l w :=
 Pl.fO hS ho hd hg (fun ρ hρ X _=>by
  unfold execOp;rw [hop]
  refine Pl.dI (Builtin.min_ _ _ (#[x,y].map ρ)) X ?_
  rw [show #[x,y].map ρ=#[.int .i64 a,.int .i64 b] from by simp [hρ.dK hx,hρ.dK hy]]
  exact run_min_int2 _ _ _ _ _ _ _) h
end
theorem acF (N n c j:Nat) (h:j<n) (X:World):(Instr.indexAt 24 (.slice (some ⟨N,0,none⟩) n c) (.int .i64 (j:Int))).run Tryz.prog X = .ok (.pointer (some ⟨N,j,none⟩)) X:=by
 have h1:(j:Int)<(n:Int):=by omega
 have h0:(0:Int)≤(j:Int):=by omega
 have e:(⟨N,0,none⟩:Addr).add j=⟨N,j,none⟩:=by rw [Addr.add_mid,Nat.zero_add]
 go_simp
theorem Cb.R7 {w:World} {N:Nat} {o:List Nat} (h:Cb w N 57 (cu o)) {j:Nat} (hj:j<o.length) (x:Nat):(Instr.storeAt 57 (.pointer (some ⟨N,j,none⟩)) (.int .u32 (x:Int))).run Tryz.prog w = .ok () (w.setCell ⟨N,j,none⟩ (.int .u32 (x:Int))):=by
 have hc:=h.cellAt (Xo hj)
 have hf:w.frozen? ⟨N,j,none⟩=false:=by unfold Cb at h;simp [World.frozen?,h]
 clear h hj
 go_simp
theorem Cb.acG {w:World} {N:Nat} {o:List Nat} (h:Cb w N 57 (cu o)) (j x:Nat):Cb (w.setCell ⟨N,j,none⟩ (.int .u32 (x:Int))) N 57 (cu (o.set j x)):=by rw [← Zi];exact Cb.set h j _
theorem Ext.R8 {w0 w:World} (h:Ext w0 w) {N j:Nat} (hN:w0.heap.size≤N) (v:Value):Ext w0 (w.setCell ⟨N,j,none⟩ v):=Below.setCell h (by exact hN) v
theorem F9 {a:Nat} (X:World):(convert 111 57 (.int .u64 (a:Int))).run Tryz.prog X = .ok (.int .u32 ((a%4294967296:Nat):Int)) X:=by
 have w1:IntKind.u32.wrap (a:Int)=((a%4294967296:Nat):Int):=by rw [IntKind.wrap_u32];omega
 go_simp
theorem ML {xs:List Nat} {j:Nat} (h:¬ j<xs.length):lb xs j=0:=oI (Nat.le_of_not_lt h)
theorem mod_succ (X i:Nat):X%4294967296^(i+1)=X%4294967296^i+lb (limbs X) i*4294967296^i:=by
 rw [oK,Nat.pow_succ,Nat.mod_mul,Nat.mul_comm (4294967296^i)]
theorem ym (o:List Nat) (i x:Nat) (h:i<o.length):val ((o.set i x).take (i+1))=val (o.take i)+x*4294967296^i:=by
 rw [List.take_set,List.take_add_one,List.getElem?_eq_getElem h]
 have hl:(o.take i).length=i:=by simp;omega
 rw [Option.toList_some,List.set_append_right _ _ (by omega),hl,Nat.sub_self,List.set_cons_zero,val_append,hl]
 simp [val,Nat.mul_comm]
theorem yt {a:Nat} {z:Int} (hz:z=32) (h:a<18446744073709551616) (X:World) {x y:Operand}:(do eqGuard .shr 111 x y (.int .u64 (a:Int)) (.int .u64 z);binOp .shr 111 (.int .u64 (a:Int)) (.int .u64 z):Sem Value).run Tryz.prog X = .ok (.int .u64 ((a/4294967296:Nat):Int)) X:=by
 subst hz
 have e:(a:Int)/4294967296=((a/4294967296:Nat):Int):=by omega
 have w1:=oC (c:=a/4294967296) (by omega)
 clear h
 generalize a/4294967296=c at *
 go_simp
theorem MM {a:Nat} {z:Int} (hz:z=4294967295) (h:a<18446744073709551616) (X:World) {x y:Operand}:(do eqGuard .and 111 x y (.int .u64 (a:Int)) (.int .u64 z);binOp .and 111 (.int .u64 (a:Int)) (.int .u64 z):Sem Value).run Tryz.prog X = .ok (.int .u64 ((a%4294967296:Nat):Int)) X:=by
 subst hz
 have e:bits .and .u64 (a:Int) 4294967295=((a%4294967296:Nat):Int):=by
  have h31:(BitVec.ofInt 64 4294967295).toNat=2^32-1:=by decide
  have key:(BitVec.ofInt 64 (a:Int)&&&BitVec.ofInt 64 4294967295).toNat=a%2^32:=by
   rw [BitVec.toNat_and,h31,Nat.and_two_pow_sub_one_eq_mod,BitVec.toNat_ofInt]
   congr 1
   omega
  show IntKind.u64.wrap ((BitVec.ofInt 64 (a:Int)&&&BitVec.ofInt 64 4294967295).toNat:Nat)=_
  rw [key]
  exact oC (by omega)
 clear h
 go_simp
end Go.Proofs.YtgcieamfidoaoaaGreatDoor
