/- Sums and differences, limb by limb: plain lists and naturals. -/
import Derived.Test.YtgcieamfidoaoaaGreatDoorBad
import Derived.Test.YtgcieamfidoaoaaGreatDoorBae
import Derived.Maps.AppendAt
import Derived.Laws.EntriesVeiled
set_option linter.all false
set_option maxHeartbeats 8000000
namespace Go.Proofs.YtgcieamfidoaoaaGreatDoor
abbrev JD:={ p:Nat × Nat // p.1<4294967296∧p.2<4294967296 }
def jE (xs ys:List Nat) (k:Nat):List (Nat × Nat):=(List.range k).map fun j=>(lb xs j,lb ys j)
theorem uB (xs ys:List Nat) (k:Nat):jE xs ys (k+1)=jE xs ys k++[(lb xs k,lb ys k)]:=by simp [jE,List.range_succ]
def firsts (l:List JD):List Nat:=l.map (·.1.1)
def seconds (l:List JD):List Nat:=l.map (·.1.2)
theorem pF (xs:List Nat) (L:Nat) (h:xs.length≤L):val ((List.range L).map fun j=>lb xs j)=val xs:=by
 rw [← JE ((List.range L).map fun j=>lb xs j) xs.length]
 · congr 1
   apply vZ
   · simp;omega
   · intro j hj
     simp at hj
     rw [jH (by omega)]
     simp [lb,show j<L by omega]
 · intro j h1 h2
   simp at h2
   simp [h2,oI h1]
theorem Du {l:List JD} {xs ys:List Nat} (h:l.map (·.1)=jE xs ys xs.length):val (firsts l)=val xs:=by
 have:firsts l=(List.range xs.length).map fun j=>lb xs j:=by
  have:=congrArg (List.map Prod.fst) h
  simpa [firsts,jE,List.map_map,Function.comp_def] using this
 rw [this,pF _ _ (Nat.le_refl _)]
theorem AA {l:List JD} {xs ys:List Nat} (h:l.map (·.1)=jE xs ys xs.length) (hl:ys.length≤xs.length):val (seconds l)=val ys:=by
 have:seconds l=(List.range xs.length).map fun j=>lb ys j:=by
  have:=congrArg (List.map Prod.snd) h
  simpa [seconds,jE,List.map_map,Function.comp_def] using this
 rw [this,pF _ _ hl]
structure pG (pre:List JD) (o:List Nat) (c:Nat):Prop where
 len:o.length=pre.length
 lt:∀ x∈o,x<4294967296
 carry:c≤1
 val_eq:val o+c*4294967296^pre.length=val (firsts pre)+val (seconds pre)
theorem pG.start:pG [] [] 0:=⟨rfl,by simp,by omega,by simp [firsts,seconds,val]⟩
theorem pG.step {pre:List JD} {o:List Nat} {c:Nat} (h:pG pre o c) (p:JD) :
  pG (pre++[p]) (o++[(p.1.1+p.1.2+c)%4294967296]) ((p.1.1+p.1.2+c)/4294967296):=by
 have h1:=p.2.1
 have h2:=p.2.2
 have h3:=h.carry
 refine ⟨by simp [h.len],rP h.lt (Nat.mod_lt _ (by decide)),by omega,?_⟩
 have e1:firsts (pre++[p])=firsts pre++[p.1.1]:=by simp [firsts]
 have e2:seconds (pre++[p])=seconds pre++[p.1.2]:=by simp [seconds]
 have l1:(firsts pre).length=pre.length:=by simp [firsts]
 have l2:(seconds pre).length=pre.length:=by simp [seconds]
 rw [e1,e2,val_append,val_append,val_append,l1,l2,h.len]
 simp only [val,Nat.mul_zero,Nat.add_zero,List.length_append,List.length_singleton,Nat.pow_succ]
 have e:=h.val_eq
 generalize 4294967296^pre.length=B at *
 have e3:(p.1.1+p.1.2+c)=(p.1.1+p.1.2+c)%4294967296+(p.1.1+p.1.2+c)/4294967296*4294967296:=by omega
 have e4:(p.1.1+p.1.2+c)*B=(p.1.1+p.1.2+c)%4294967296*B+(p.1.1+p.1.2+c)/4294967296*4294967296*B:=by
  conv=>lhs;rw [e3]
  rw [Nat.add_mul]
 rw [Nat.add_mul,Nat.add_mul] at e4
 have e5:(p.1.1+p.1.2+c)/4294967296*(B*4294967296)=(p.1.1+p.1.2+c)/4294967296*4294967296*B:=by
  rw [Nat.mul_comm B 4294967296,← Nat.mul_assoc]
 rw [e5,Nat.mul_comm B,Nat.mul_comm B,Nat.mul_comm B]
 omega
theorem pG.done {pre:List JD} {o:List Nat} {c:Nat} (h:pG pre o c) {xs ys:List Nat} (hp:pre.map (·.1)=jE xs ys xs.length) (hl:ys.length≤xs.length) :
  val (o++[c])=val xs+val ys:=by
 rw [val_append,← Du hp,← AA hp hl,← h.val_eq,h.len]
 simp only [val,Nat.mul_zero,Nat.add_zero]
 rw [Nat.mul_comm c]
structure rV (pre:List JD) (o:List Nat) (c:Nat):Prop where
 len:o.length=pre.length
 lt:∀ x∈o,x<4294967296
 carry:c≤1
 val_eq:val o+val (seconds pre)=val (firsts pre)+c*4294967296^pre.length
theorem rV.start:rV [] [] 0:=⟨rfl,by simp,by omega,by simp [firsts,seconds,val]⟩
def nS (x y c:Nat):Nat:=(x+4294967296+4294967296-y-c)%4294967296
def qJ (x y c:Nat):Nat:=if x<y+c then 1 else 0
theorem yx (x y c:Nat) (h1:x<4294967296) (h2:y<4294967296) (h3:c≤1):nS x y c+y+c=x+qJ x y c*4294967296:=by
 unfold nS qJ
 split
 · rename_i h
   have e:(x+4294967296+4294967296-y-c)%4294967296=x+4294967296-y-c:=by
    rw [show x+4294967296+4294967296-y-c=(x+4294967296-y-c)+4294967296 by omega,Nat.add_mod_right,Nat.mod_eq_of_lt (by omega)]
   rw [e];omega
 · rename_i h
   have e:(x+4294967296+4294967296-y-c)%4294967296=x-y-c:=by
    rw [show x+4294967296+4294967296-y-c=(x-y-c)+4294967296+4294967296 by omega,Nat.add_mod_right,Nat.add_mod_right,Nat.mod_eq_of_lt (by omega)]
   rw [e];omega
theorem rT (x y c:Nat):nS x y c<4294967296:=by
 unfold nS
 exact Nat.mod_lt _ (by decide)
theorem yu (x y c:Nat):qJ x y c≤1:=by unfold qJ;split<;>omega
theorem val_one (x:Nat):val [x]=x:=rfl
theorem rV.step {pre:List JD} {o:List Nat} {c:Nat} (h:rV pre o c) (p:JD) :
  rV (pre++[p]) (o++[nS p.1.1 p.1.2 c]) (qJ p.1.1 p.1.2 c):=by
 have h1:=p.2.1
 have h2:=p.2.2
 have h3:=h.carry
 have hs:=yx p.1.1 p.1.2 c h1 h2 h3
 have k1:=rT p.1.1 p.1.2 c
 have k2:=yu p.1.1 p.1.2 c
 generalize nS p.1.1 p.1.2 c=d at *
 generalize qJ p.1.1 p.1.2 c=f at *
 refine ⟨by simp [h.len],rP h.lt k1,k2,?_⟩
 have e1:firsts (pre++[p])=firsts pre++[p.1.1]:=by simp [firsts]
 have e2:seconds (pre++[p])=seconds pre++[p.1.2]:=by simp [seconds]
 have l1:(firsts pre).length=pre.length:=by simp [firsts]
 have l2:(seconds pre).length=pre.length:=by simp [seconds]
 rw [e1,e2,val_append,val_append,val_append,l1,l2,h.len,val_one,val_one,val_one,List.length_append,List.length_singleton,Nat.pow_succ]
 have e:=h.val_eq
 generalize 4294967296^pre.length=B at *
 have e4:(d+p.1.2+c)*B=(p.1.1+f*4294967296)*B:=by rw [hs]
 rw [Nat.add_mul,Nat.add_mul,Nat.add_mul] at e4
 have e5:f*(B*4294967296)=f*4294967296*B:=by
  rw [Nat.mul_comm B 4294967296,← Nat.mul_assoc]
 rw [e5,Nat.mul_comm B,Nat.mul_comm B,Nat.mul_comm B]
 omega
theorem rV.done {pre:List JD} {o:List Nat} {c:Nat} (h:rV pre o c) {xs ys:List Nat} (hp:pre.map (·.1)=jE xs ys xs.length) (hl:ys.length≤xs.length) (hge:val ys≤val xs) :
  val o=val xs-val ys:=by
 have e:=h.val_eq
 rw [Du hp,AA hp hl] at e
 have hlt:=mQ o h.lt
 rw [h.len] at hlt
 have hc:=h.carry
 generalize 4294967296^pre.length=B at *
 have:c=0∨c=1:=by omega
 rcases this with rfl | rfl<;>omega
end Go.Proofs.YtgcieamfidoaoaaGreatDoor
/- The closures of nat.Add and nat.Sub. -/
namespace Go.Proofs.YtgcieamfidoaoaaGreatDoor
open Go.RowKit Go.Shelf
set_option maxRecDepth 100000
theorem JF (w:World) (x y c:Nat) (hx:x<4294967296) (hy:y<4294967296) (hc:c≤1) :
  Calls Tryz.prog 148 #[.int .u32 x,.int .u32 y,.int .u32 c] w fun e w'=>e = .returned (.tuple #[.int .u32 ((x+y+c)%4294967296:Nat),.int .u32 ((x+y+c)/4294967296:Nat)])∧w=w':=by
 have h1:((x:Nat):Int)<4294967296:=by omega
 have h2:((y:Nat):Int)<4294967296:=by omega
 have h3:((c:Nat):Int)≤1:=by omega
 clear hx hy hc
 go_enter Tryz.func148,Tryz.ntmps148
 go_wp2
 go_ret2
 exact ⟨by rw [Int.natCast_emod,Int.natCast_ediv,Int.natCast_add,Int.natCast_add];rfl,rfl⟩
theorem V5 (n:Nat) (h:n<4294967296):n/2147483648=if n.testBit 31 then 1 else 0:=by
 have e:n.testBit 31=decide (2147483648≤n):=by
  rw [Nat.testBit_eq_decide_div_mod_eq]
  have h2:n/2^31<2:=by rw [Nat.div_lt_iff_lt_mul (by decide)];exact h
  rw [Nat.mod_eq_of_lt h2,Bool.eq_iff_iff,decide_eq_true_iff,decide_eq_true_iff]
  simp only [Nat.reducePow]
  constructor<;>intro g<;>omega
 rw [e]
 by_cases hn:2147483648≤n
 · rw [decide_eq_true hn,if_pos rfl];omega
 · rw [decide_eq_false hn,if_neg (by decide)];omega
theorem Lf (n:Nat) (h:n<4294967296):n.testBit 31=decide (2147483648≤n):=by
 rw [Nat.testBit_eq_decide_div_mod_eq]
 have h2:n/2^31<2:=by rw [Nat.div_lt_iff_lt_mul (by decide)];exact h
 rw [Nat.mod_eq_of_lt h2,Bool.eq_iff_iff,decide_eq_true_iff,decide_eq_true_iff]
 simp only [Nat.reducePow]
 constructor<;>intro g<;>omega
theorem Lg (x y c:Nat) (hx:x<4294967296) (hy:y<4294967296) (hc:c≤1) :
  (((4294967295^^^x)&&&y)|||((4294967295^^^(x^^^y))&&&nS x y c))/2147483648=qJ x y c:=by
 have hd:=rT x y c
 have hs:=yx x y c hx hy hc
 have p32:(4294967296:Nat)=2^32:=rfl
 have b1:((4294967295^^^x)&&&y)<4294967296:=Nat.lt_of_le_of_lt Nat.and_le_right hy
 have b2:((4294967295^^^(x^^^y))&&&nS x y c)<4294967296:=Nat.lt_of_le_of_lt Nat.and_le_right hd
 have b3:(((4294967295^^^x)&&&y)|||((4294967295^^^(x^^^y))&&&nS x y c))<4294967296:=by
  rw [p32] at b1 b2 ⊢;exact Nat.or_lt_two_pow b1 b2
 rw [V5 _ b3]
 have hc2:=yu x y c
 have t:(4294967295:Nat).testBit 31=true:=by decide
 rw [Nat.testBit_or,Nat.testBit_and,Nat.testBit_and,Nat.testBit_xor,Nat.testBit_xor,Nat.testBit_xor,t,Lf x hx,Lf y hy,Lf _ hd]
 generalize nS x y c=d at *
 have hC:qJ x y c=0∧y+c≤x∨qJ x y c=1∧x<y+c:=by
  unfold qJ
  split
  · right;omega
  · left;omega
 generalize qJ x y c=f at *
 by_cases g1:2147483648≤x<;>by_cases g2:2147483648≤y<;>by_cases g3:2147483648≤d<;>simp [g1,g2,g3]<;>omega
theorem JG (x y c:Nat) (hx:x<4294967296) (hy:y<4294967296) (hc:c≤1):(((x:Nat):Int)-(y:Nat)-(c:Nat))%4294967296=((nS x y c:Nat):Int):=by
 have hs:=yx x y c hx hy hc
 have hd:=rT x y c
 have hc2:=yu x y c
 generalize nS x y c=d at *
 generalize qJ x y c=f at *
 omega
theorem JH (x y c:Nat) (hx:x<4294967296) (hy:y<4294967296) (hc:c≤1) :
  bits .or .u32 (bits .and .u32 (bits .xor .u32 IntKind.u32.max ((x:Nat):Int)) ((y:Nat):Int)) (bits .and .u32 (bits .xor .u32 IntKind.u32.max (bits .xor .u32 ((x:Nat):Int) ((y:Nat):Int))) ((((x:Nat):Int)-(y:Nat)-(c:Nat))%4294967296))/2147483648=((qJ x y c:Nat):Int):=by
 have hd:=rT x y c
 have p32:(4294967296:Nat)=2^32:=rfl
 have b0:(x^^^y)<4294967296:=by rw [p32] at hx hy ⊢;exact Nat.xor_lt_two_pow hx hy
 have b4:(4294967295^^^x)<4294967296:=by rw [p32] at hx ⊢;exact Nat.xor_lt_two_pow (by decide) hx
 have b5:(4294967295^^^(x^^^y))<4294967296:=by rw [p32] at b0 ⊢;exact Nat.xor_lt_two_pow (by decide) b0
 have b1:((4294967295^^^x)&&&y)<4294967296:=Nat.lt_of_le_of_lt Nat.and_le_right hy
 have b2:((4294967295^^^(x^^^y))&&&nS x y c)<4294967296:=Nat.lt_of_le_of_lt Nat.and_le_right hd
 have em:IntKind.u32.max=((4294967295:Nat):Int):=by decide
 rw [JG x y c hx hy hc,em,u32_xor_nat _ _ (by decide) hx,u32_and_nat _ _ b4 hy,u32_xor_nat _ _ hx hy,u32_xor_nat _ _ (by decide) b0,u32_and_nat _ _ b5 hd,u32_or_nat _ _ b1 b2,← Lg x y c hx hy hc,Int.natCast_ediv]
 rfl
theorem Aj (w:World) (x y c:Nat) (hx:x<4294967296) (hy:y<4294967296) (hc:c≤1) :
  Calls Tryz.prog 184 #[.int .u32 x,.int .u32 y,.int .u32 c] w fun e w'=>e = .returned (.tuple #[.int .u32 (nS x y c:Nat),.int .u32 (qJ x y c:Nat)])∧w=w':=by
 have H1:=Lib.hid (JG x y c hx hy hc)
 have H2:=Lib.hid (JH x y c hx hy hc)
 clear hx hy hc
 go_enter Tryz.func184,Tryz.ntmps184
 go_wp2
 go_ret2
 exact ⟨by rw [← H1.out,← H2.out];rfl,rfl⟩
theorem ow (w:World) (x y c b:Nat) (hx:x<4294967296) (hy:y<4294967296) (hc:c≤1) (hcell:w.cell? ⟨b,0,none⟩=some (.int .u32 c)) (hf:w.frozen? ⟨b,0,none⟩=false) :
  Calls Tryz.prog 147 #[.int .u32 x,.int .u32 y,.pointer (some ⟨b,0,none⟩)] w fun e w'=>e = .returned (.int .u32 ((x+y+c)%4294967296:Nat))∧w'=w.setCell ⟨b,0,none⟩ (.int .u32 ((x+y+c)/4294967296:Nat)):=by
 have H1:=Lib.hid hx
 have H2:=Lib.hid hy
 have H3:=Lib.hid hc
 clear hx hy hc
 go_enter Tryz.func147,Tryz.ntmps147
 go_wp2_with (go_at_call 148;refine (JF _ x y c H1.out H2.out H3.out).mono ?_;rintro e w' ⟨rfl,rfl⟩)
 go_ret
 exact ⟨by rw [Int.natCast_emod,Int.natCast_add,Int.natCast_add];rfl,by rw [Int.natCast_ediv,Int.natCast_add,Int.natCast_add];rfl⟩
theorem GM (w:World) (x y c b:Nat) (hx:x<4294967296) (hy:y<4294967296) (hc:c≤1) (hcell:w.cell? ⟨b,0,none⟩=some (.int .u32 c)) (hf:w.frozen? ⟨b,0,none⟩=false) :
  Calls Tryz.prog 183 #[.int .u32 x,.int .u32 y,.pointer (some ⟨b,0,none⟩)] w fun e w'=>e = .returned (.int .u32 (nS x y c:Nat))∧w'=w.setCell ⟨b,0,none⟩ (.int .u32 (qJ x y c:Nat)):=by
 have H1:=Lib.hid hx
 have H2:=Lib.hid hy
 have H3:=Lib.hid hc
 clear hx hy hc
 go_enter Tryz.func183,Tryz.ntmps183
 go_wp2_with (go_at_call 184;refine (Aj _ x y c H1.out H2.out H3.out).mono ?_;rintro e w' ⟨rfl,rfl⟩)
 go_ret
 exact ⟨rfl,rfl⟩
theorem AB (w:World):Calls Tryz.prog 124 #[] w fun e w'=>e = .returned (.func (.func 147) #[] #[.pointer (some ⟨w.heap.size,0,none⟩)])∧w'=w.alloc (.cells #[.int .u32 0] 57):=by
 go_enter Tryz.func124,Tryz.ntmps124
 go_wp2
 go_ret
 exact ⟨rfl,rfl⟩
theorem JI (w:World):Calls Tryz.prog 166 #[] w fun e w'=>e = .returned (.func (.func 183) #[] #[.pointer (some ⟨w.heap.size,0,none⟩)])∧w'=w.alloc (.cells #[.int .u32 0] 57):=by
 go_enter Tryz.func166,Tryz.ntmps166
 go_wp2
 go_ret
 exact ⟨rfl,rfl⟩
theorem uC (w:World) (a b:Option Addr) (l l' c c':Nat) :
  Calls Tryz.prog 125 #[.slice a l c,.slice b l' c'] w fun e w'=>e = .returned (.func (.func 149) #[] #[.pointer (some ⟨w.heap.size+1,0,none⟩),.pointer (some ⟨w.heap.size,0,none⟩)])∧w'=(w.alloc (.cells #[.slice a l c] 24)).alloc (.cells #[.slice b l' c'] 24):=by
 go_enter Tryz.func125,Tryz.ntmps125
 go_wp2
 go_ret
 exact ⟨rfl,rfl⟩
end Go.Proofs.YtgcieamfidoaoaaGreatDoor
/- The iterator of nat.Add and nat.Sub: limbs place by place. -/
namespace Go.Proofs.YtgcieamfidoaoaaGreatDoor
open Go.RowKit Go.Shelf
attribute [local go_sem] Oper.semAt_some
abbrev V6 (p:JD):Array Value:=#[.int .u32 (p.1.1:Int),.int .u32 (p.1.2:Int)]
def mkP {xs ys:List Nat} (hx:∀ x∈xs,x<4294967296) (hy:∀ x∈ys,x<4294967296) (j:Nat):JD:=⟨(lb xs j,lb ys j),dz hx j,dz hy j⟩
structure Lh (n₀ Ba Bb:Nat) (W W':World):Prop where
 DI:Below n₀ W W'
 ba:W'.heap[Ba]?=W.heap[Ba]?
 bb:W'.heap[Bb]?=W.heap[Bb]?
theorem Lh.refl (n₀ Ba Bb:Nat) (W:World):Lh n₀ Ba Bb W W:=⟨Below.refl _ _,rfl,rfl⟩
theorem Lh.trans {n₀ Ba Bb:Nat} {A B C:World} (h:Lh n₀ Ba Bb A B) (k:Lh n₀ Ba Bb B C):Lh n₀ Ba Bb A C:=⟨h.DI.trans k.DI,k.ba.trans h.ba,k.bb.trans h.bb⟩
theorem Tg {n₀ Ba Bb:Nat} {w:World} (hn:n₀≤w.heap.size) (ha:Ba<w.heap.size) (hb:Bb<w.heap.size) (W:World) (l:Nat) (o o':Obj) (hl:w.heap.size≤l) (h:W.heap[l]?=some o) (h1:o.isCells=false) (h2:o.isWalk=false):Lh n₀ Ba Bb W (W.putObj l o'):=by
 have hg:=grownBy_putObj' W l o'
 have hlt:=(Array.getElem?_eq_some_iff.1 h).1
 exact ⟨belowK_b hn W l o o' hl h h1 h2,hg.block Ba (by omega) (fun e=>by injection e with e;omega),hg.block Bb (by omega) (fun e=>by injection e with e;omega)⟩
set_option maxRecDepth 100000 in
theorem Pg (l Ba Bb:Nat) (A A2:Option Addr) (c c2:Nat) (xs ys:List Nat) (hle:ys.length≤xs.length) (n₀:Nat) (W:World)
  (hUa:U W (.slice A xs.length c) xs) (hUb:U W (.slice A2 ys.length c2) ys) (hba:∀ ad,A=some ad→0<xs.length→ad.block<n₀) (hbb:∀ ad,A2=some ad→0<ys.length→ad.block<n₀) (J Jx:List JD→World→Prop)
  (hY:∀ pre x W,J pre W→pre.length<xs.length→YieldAt Fence.wide 2 Tryz.prog l (V6 x) W fun e W' =>
   (e = .returned (.bool true)∧J (pre++[x]) W'∧Lh n₀ Ba Bb W W')∨(e = .returned (.bool false)∧Jx (pre++[x]) W'))
  (hca:W.cell? ⟨Ba,0,none⟩=some (.slice A xs.length c)) (hcb:W.cell? ⟨Bb,0,none⟩=some (.slice A2 ys.length c2)) (h0:J [] W) :
  CallsIn Fence.wide 3 Tryz.prog 149 #[.func (.yield l) #[] #[],.pointer (some ⟨Bb,0,none⟩),.pointer (some ⟨Ba,0,none⟩)] W fun e W'=>(∃ v,e = .returned v) ∧
   ((∃ l,l.map (·.1)=jE xs ys xs.length∧J l W')∨(∃ pre,True∧Jx pre W')):=by
 obtain ⟨_,_,hva,⟨h1,h2⟩,hx,hr⟩:=hUa
 injection hva with e1 _ e3
 subst e1 e3
 obtain ⟨_,_,hvb,⟨h3,h4⟩,hy,hr2⟩:=hUb
 injection hvb with e1 _ e3
 subst e1 e3
 refine callsIn_of_wp Tryz.func149 rfl trivial ?_ rfl
 simp only [Tryz.ntmps149,List.size_toArray,List.length_cons,List.length_nil,Nat.reduceAdd,Nat.reduceSub,Array.replicate_succ,Array.replicate_zero,List.push_toArray,List.append_toArray,List.nil_append,List.cons_append]
 gi_wp2
 gi_loopw [10] (fun i wr=>∃ (k:Nat) (pre:List JD),k≤ys.length∧i = .int .i64 (k:Int)∧Hid (pre.map (·.1)=jE xs ys k)∧J pre wr∧Lh n₀ Ba Bb W wr)
  (fun i _=>ys.length-(intOf i).toNat)
 case atStart=>exact ⟨0,[],Nat.zero_le _,rfl,rfl,h0,Lh.refl _ _ _ _⟩
 case round =>
  obtain ⟨k,pre,hk,rfl,hp,hJs,hnx⟩:=hrel
  have acZ:=(World.cell?_of_block (w:=W) (a:=⟨Ba,0,none⟩) hnx.ba).trans hca
  have afF:=(World.cell?_of_block (w:=W) (a:=⟨Bb,0,none⟩) hnx.bb).trans hcb
  by_cases hlt:k<ys.length
  · obtain ⟨ad,rfl,hb,hcell⟩:=hr (by omega)
    obtain ⟨Ir,rfl,hb2,hcell2⟩:=hr2 (by omega)
    have hc1:=(hnx.DI.cell (p:=ad.add k) (by rw [aL];exact hba ad rfl (by omega))).trans (hcell k (by omega))
    have hc2:=(hnx.DI.cell (p:=Ir.add k) (by rw [aL];exact hbb Ir rfl (by omega))).trans (hcell2 k hlt)
    have hpl:pre.length=k:=by have:=congrArg List.length hp.out;simpa [jE] using this
    obtain ⟨fn,tmps,assign,body,hy1,hR⟩:=hY pre (mkP hx hy k) wr hJs (by omega)
    dsimp only [V6,mkP] at hy1
    have HP:=Lib.hid hpl
    have hkx:((k:Nat):Int)<xs.length:=by omega
    clear hpl
    gi_wp2
    refine hR.mono ?_
    rintro e W3 (⟨rfl,hJ3,hk3⟩ | ⟨rfl,hJx3⟩)
    · gi_wp2
      go_roundw
      case rel=>exact ⟨k+1,_,by omega,by go_num,by rw [Hid,List.map_append,hp.out,uB];rfl,hJ3,hnx.trans hk3⟩
      case measure=>simp [intOf];omega
    · gi_wp2
      refine bodyPost_ret (results_none rfl _ _ _) rfl ?_
      exact ⟨⟨_,rfl⟩,.inr ⟨_,trivial,hJx3⟩⟩
  · obtain rfl:k=ys.length:=by omega
    rcases Nat.lt_or_ge ys.length xs.length with hl2 | hl2
    · obtain ⟨ad,rfl,hb,hcell⟩:=hr (by omega)
      have ajX:¬ c=ys.length:=by omega
      gi_wp2
      gi_loopw [29] (fun i wr=>∃ (k:Nat) (pre:List JD),k≤xs.length-ys.length∧i = .int .i64 (k:Int)∧Hid (pre.map (·.1)=jE xs ys (ys.length+k))∧J pre wr∧Lh n₀ Ba Bb W wr)
       (fun i _=>xs.length-ys.length-(intOf i).toNat)
      case atStart=>exact ⟨0,pre,Nat.zero_le _,rfl,hp,hJs,hnx⟩
      case round =>
       clear hp hJs hnx acZ afF pre
       obtain ⟨k,pre,hk,rfl,hp,hJs,hnx⟩:=hrel
       by_cases hlt:k<xs.length-ys.length
       · have hc1:wr.cell? ((ad.add ys.length).add k)=some (.int .u32 ((lb xs (ys.length+k):Nat):Int)):=by
          rw [addr_add_add]
          exact (hnx.DI.cell (p:=ad.add (ys.length+k)) (by rw [aL];exact hba ad rfl (by omega))).trans (hcell _ (by omega))
         have hpl:pre.length=ys.length+k:=by have:=congrArg List.length hp.out;simpa [jE] using this
         obtain ⟨fn,tmps,assign,body,hy1,hR⟩:=hY pre (mkP hx hy (ys.length+k)) wr hJs (by omega)
         dsimp only [V6,mkP] at hy1
         rw [oI (show ys.length≤ys.length+k by omega),show (((0:Nat)):Int)=0 from rfl] at hy1
         have HP:=Lib.hid hpl
         clear hpl
         by_cases hk0:k=0
         · subst hk0
           rw [kQ,Nat.add_zero] at hc1
           rw [Nat.add_zero] at hy1
           gi_wp2
           refine hR.mono ?_
           rintro e W3 (⟨rfl,hJ3,hk3⟩ | ⟨rfl,hJx3⟩)
           · gi_wp2
             go_roundw
             case rel=>exact ⟨1,_,by omega,by go_num,by rw [Hid,List.map_append,hp.out,uB];rfl,hJ3,hnx.trans hk3⟩
             case measure=>simp [intOf];omega
           · gi_wp2
             refine bodyPost_ret (results_none rfl _ _ _) rfl ?_
             exact ⟨⟨_,rfl⟩,.inr ⟨_,trivial,hJx3⟩⟩
         · gi_wp2
           refine hR.mono ?_
           rintro e W3 (⟨rfl,hJ3,hk3⟩ | ⟨rfl,hJx3⟩)
           · gi_wp2
             go_roundw
             case rel=>exact ⟨k+1,_,by omega,by go_num,by rw [Hid,List.map_append,hp.out,← Nat.add_assoc,uB];rfl,hJ3,hnx.trans hk3⟩
             case measure=>simp [intOf];omega
           · gi_wp2
             refine bodyPost_ret (results_none rfl _ _ _) rfl ?_
             exact ⟨⟨_,rfl⟩,.inr ⟨_,trivial,hJx3⟩⟩
       · have HP:Hid (pre.map (·.1)=jE xs ys xs.length):=by rw [Hid,hp.out,show ys.length+k=xs.length by omega]
         gi_wp2
         go_end0
         exact ⟨⟨_,rfl⟩,.inl ⟨_,HP.out,hJs⟩⟩
    · have HP:Hid (pre.map (·.1)=jE xs ys xs.length):=by rw [Hid,hp.out,show ys.length=xs.length by omega]
      have hz:xs.length-ys.length=0:=by omega
      have hxy:xs.length=ys.length:=by omega
      have HJ:=Lib.hid hJs
      clear hJs hp
      rw [hxy] at acZ
      clear hxy hz
      gi_wp2
      all_goals
       gi_loopw [29] (fun i wr=>i = .int .i64 0∧J pre wr) (fun _ _=>0)
       case atStart=>exact ⟨rfl,HJ.out⟩
       case round =>
        obtain ⟨rfl,hJs⟩:=hrel
        gi_wp2
        go_end0
        exact ⟨⟨_,rfl⟩,.inl ⟨_,HP.out,hJs⟩⟩
theorem uD (Ba Bb:Nat) (v u:Value) (xs ys:List Nat) (w0 w:World) (hB:Below w0.heap.size w0 w) (hle:ys.length≤xs.length) (hBa:Ba<w.heap.size) (hBb:Bb<w.heap.size)
  (hca:Boxed w Ba 24 v) (hcb:Boxed w Bb 24 u) (hU:U w0 v xs) (hV:U w0 u ys) :
  SeqStopsK Fence.wide 3 Tryz.prog 149 #[.pointer (some ⟨Bb,0,none⟩),.pointer (some ⟨Ba,0,none⟩)] V6 (Lh w0.heap.size Ba Bb) (fun l=>l.map (·.1)=jE xs ys xs.length)
   (fun pre=>True) xs.length w:=fun l J Jx W hW _ _ hY h0=>by
 obtain ⟨A,c,rfl,h1,hx,hr⟩:=id hU
 obtain ⟨A2,c2,rfl,h2,hy,hr2⟩:=id hV
 have hW':=hB.trans (hW.mono hB.size)
 exact Pg l Ba Bb A A2 c c2 xs ys hle w0.heap.size W (hU.below hW') (hV.below hW')
  (fun ad e h0=>by obtain ⟨ad',e',hb,_⟩:=hr h0;rw [e] at e';injection e' with e';subst e';exact hb)
  (fun ad e h0=>by obtain ⟨ad',e',hb,_⟩:=hr2 h0;rw [e] at e';injection e' with e';subst e';exact hb) J Jx hY
  ((hW.cell (p:=⟨Ba,0,none⟩) hBa).trans hca.cell) ((hW.cell (p:=⟨Bb,0,none⟩) hBb).trans hcb.cell) h0
end Go.Proofs.YtgcieamfidoaoaaGreatDoor
/- nat.Add. -/
namespace Go.Proofs.YtgcieamfidoaoaaGreatDoor
open Go.RowKit Go.Shelf
attribute [local go_sem] Oper.semAt_some
attribute [local go_sem ↓] oL
attribute [local go_sem] iy
structure yH (w:World) (B g cap fn:Nat) (o:List Nat) (cy:Nat) (W:World):Prop where
 box:Boxed W B 24 (.slice (some ⟨g,0,none⟩) o.length cap)
 own:Own W g (.slice (some ⟨g,0,none⟩) o.length cap) o
 Li:Boxed W (B+1) 57 (.int .u32 (cy:Nat))
 TB:Boxed W (B+2) 127 (.func (.func fn) #[] #[.pointer (some ⟨B+1,0,none⟩)])
 DI:Below w.heap.size w W
 siz:B+5≤W.heap.size
theorem zJ {X:World} {B:Nat} {t:TypeId} {v:Value} {row:Option Nat} (h:Boxed X B t v) (hr:∀ r,row=some r→∃ o:Obj,X.heap[r]?=some o∧o.isCells=false):some B≠row:=fun e=>by
 obtain ⟨o,ho,hc⟩:=hr B e.symm
 rw [show X.heap[B]?=_ from h] at ho;cases ho;cases hc
theorem V7 {X:World} {base g c n:Nat} {e:TypeId} {xs:List Value} {row:Option Nat} (h:X.ownsRow base e 1 (.slice (some ⟨g,0,none⟩) n c) n xs) (hr:∀ r,row=some r→∃ o:Obj,X.heap[r]?=some o∧o.isCells=false):some g≠row:=fun e'=>by
 obtain ⟨o,ho,hc⟩:=hr g e'.symm
 rcases h.2 with ⟨h',_⟩ | ⟨g',cap',cur,h',_,hg,_⟩
 · cases h'
 · cases h';rw [hg] at ho;cases ho;cases hc
theorem yH.grown {w X Y:World} {B g cap fn:Nat} {o:List Nat} {cy:Nat} {row:Option Nat} {B0:Nat} (h:yH w B g cap fn o cy X) (hg:X.grownBy Y row)
   (hB0:w.heap.size≤B0) (hr:∀ r,row=some r→B0≤r∧∃ o:Obj,X.heap[r]?=some o∧o.isCells=false):yH w B g cap fn o cy Y :=
 ⟨h.box.kept hg (zJ h.box fun r e=>(hr r e).2),World.ownsRow.kept h.own hg (.inr (V7 h.own fun r e=>(hr r e).2)),
  h.Li.kept hg (zJ h.Li fun r e=>(hr r e).2),h.TB.kept hg (zJ h.TB fun r e=>(hr r e).2),
  h.DI.grown hg h.DI.size (fun k e=>Nat.le_trans hB0 (hr k e).1),Nat.le_trans h.siz hg.size⟩
def wT (K:Act→World→Prop):Exit→Act→World→Prop
 | .normal,a,w=>K a w
 | _,_,_=>False
theorem AJ {F:Fence} {n:Nat} {P:Program} {c:Code} {K:Act→World→Prop} {Q:Exit→Act→World→Prop} {a:Act} {w:World} (h:c.wpIn F n P (wT K) a w):c.wpIn F n P (Exit.then K Q) a w :=
 wpIn_mono h fun e a w hq=>by
  cases e with
  | normal=>exact hq
  | _=>exact hq.elim
theorem U.put {W:World} {v:Value} {xs:List Nat} {l:Nat} {o:Obj} (h:U W v xs) (hl:W.heap[l]?=some o) (ho:o.isCells=false) (o':Obj):U (W.putObj l o') v xs:=by
 have hg:=grownBy_putObj' W l o'
 obtain ⟨A,c,rfl,hc,hx,hr⟩:=h
 refine ⟨A,c,rfl,hc,hx,fun h0=>?_⟩
 obtain ⟨ad,hA,hb,hcell⟩:=hr h0
 exact ⟨ad,hA,Nat.lt_of_lt_of_le hb hg.size,fun j hj=>cell_kept (hcell j hj) hg (fun r e=>by cases e;exact ⟨_,hl,ho⟩)⟩
set_option maxRecDepth 100000 in
theorem ZM (w:World) (v u:Value) (xs ys:List Nat) (h:U w v xs) (g:U w u ys) (hl:ys.length≤xs.length) (hm:xs.length≤1000000000) :
  CallsIn Fence.wide 4 Tryz.prog 73 #[v,u] w fun e w'=>(∃ z,e = .returned z∧Un w' z (val xs+val ys))∧Below w.heap.size w w':=by
 obtain ⟨A,c,rfl,⟨hc,_⟩,hx,hr⟩:=id h
 obtain ⟨A2,c2,rfl,⟨hc2,_⟩,hx2,hr2⟩:=id g
 clear hr hr2
 have hl1:decide (xs.length<ys.length)=false:=by rw [decide_eq_false_iff_not];omega
 have HL:=Lib.hid hl
 clear hl
 obtain ⟨i0,hi,hz0,hz1,hz2⟩:=info_parts info57
 refine callsIn_of_wp_marks Tryz.func73 rfl trivial ?_ rfl
 simp only [Tryz.ntmps73,List.size_toArray,List.length_cons,List.length_nil,Nat.reduceAdd,Nat.reduceSub,Array.replicate_succ,Array.replicate_zero,List.push_toArray,List.append_toArray,List.nil_append,List.cons_append]
 gi_wp2_with (first | (gi_at_make;refine wpListIn_make_own _ rfl _ _ 24 rfl w.heap.size 57 i0 (.int .u32 0) 1 Tryz.underlying24 hi hz0 hz1 _ _ _ (xs.length+1) rfl rfl (by omega) (by rw [hz2];omega) (by unfold maxLen;omega) (Nat.le_refl _) ?_;intro w1 hown hgrow) | (refine ⟨trivial,?_⟩;gi_at_call 124;refine (callsIn_wide.2 (AB _)).mono ?_;rintro e w' ⟨rfl,rfl⟩) | (refine ⟨trivial,?_⟩;gi_at_call 125;refine (callsIn_wide.2 (uC _ _ _ _ _ _ _)).mono ?_;rintro e w' ⟨rfl,rfl⟩))
 obtain ⟨B,hB⟩:∃ B,w1.heap.size=B:=⟨_,rfl⟩
 obtain ⟨W0,hW0⟩:∃ W0,(((((w1.alloc (.cells #[.slice (some ⟨w.heap.size,0,none⟩) 0 (xs.length+1)] 24)).alloc (.cells #[.int .u32 0] 57)).alloc (.cells #[.func (.func 147) #[] #[.pointer (some ⟨w1.heap.size+1,0,none⟩)]] 127)).alloc (.cells #[.slice A xs.length c] 24)).alloc (.cells #[.slice A2 ys.length c2] 24))=W0:=⟨_,rfl⟩
 have hB1:Below w.heap.size w w1:=(Below.refl _ _).grown hgrow (Nat.le_refl _) (fun _ h=>by cases h)
 have Ti:=hB1.size
 have hB0:Below w.heap.size w W0:=by
  rw [← hW0]
  exact ((((hB1.alloc (by omega) _).alloc (by simp;omega) _).alloc (by simp;omega) _).alloc (by simp;omega) _).alloc (by simp;omega) _
 have hsz:W0.heap.size=B+5:=by rw [← hW0,← hB];simp
 have b0:Boxed W0 B 24 (.slice (some ⟨w.heap.size,0,none⟩) 0 (xs.length+1)):=by
  rw [← hW0,← hB];exact ((((Boxed.new w1 24 _).alloc _).alloc _).alloc _).alloc _
 have b1:Boxed W0 (B+1) 57 (.int .u32 0):=by
  rw [← hW0,← hB]
  have:=((((Boxed.new (w1.alloc (.cells #[.slice (some ⟨w.heap.size,0,none⟩) 0 (xs.length+1)] 24)) 57 (.int .u32 0)).alloc (.cells #[.func (.func 147) #[] #[.pointer (some ⟨w1.heap.size+1,0,none⟩)]] 127)).alloc (.cells #[.slice A xs.length c] 24)).alloc (.cells #[.slice A2 ys.length c2] 24))
  simpa using this
 have b2:Boxed W0 (B+2) 127 (.func (.func 147) #[] #[.pointer (some ⟨B+1,0,none⟩)]):=by
  rw [← hW0,← hB]
  have:=(((Boxed.new ((w1.alloc (.cells #[.slice (some ⟨w.heap.size,0,none⟩) 0 (xs.length+1)] 24)).alloc (.cells #[.int .u32 0] 57)) 127 (.func (.func 147) #[] #[.pointer (some ⟨w1.heap.size+1,0,none⟩)])).alloc (.cells #[.slice A xs.length c] 24)).alloc (.cells #[.slice A2 ys.length c2] 24))
  simpa using this
 have b3:Boxed W0 (B+3) 24 (.slice A xs.length c):=by
  rw [← hW0,← hB]
  have:=((Boxed.new (((w1.alloc (.cells #[.slice (some ⟨w.heap.size,0,none⟩) 0 (xs.length+1)] 24)).alloc (.cells #[.int .u32 0] 57)).alloc (.cells #[.func (.func 147) #[] #[.pointer (some ⟨w1.heap.size+1,0,none⟩)]] 127)) 24 (.slice A xs.length c)).alloc (.cells #[.slice A2 ys.length c2] 24))
  simpa using this
 have b4:Boxed W0 (B+4) 24 (.slice A2 ys.length c2):=by
  rw [← hW0,← hB]
  have:=(Boxed.new ((((w1.alloc (.cells #[.slice (some ⟨w.heap.size,0,none⟩) 0 (xs.length+1)] 24)).alloc (.cells #[.int .u32 0] 57)).alloc (.cells #[.func (.func 147) #[] #[.pointer (some ⟨w1.heap.size+1,0,none⟩)]] 127)).alloc (.cells #[.slice A xs.length c] 24)) 24 (.slice A2 ys.length c2))
  simpa using this
 have hown0:Own W0 w.heap.size (.slice (some ⟨w.heap.size,0,none⟩) ([]:List Nat).length (xs.length+1)) []:=by
  rw [← hW0];exact ((((World.ownsRow.alloc hown _).alloc _).alloc _).alloc _).alloc _
 have hS0:yH w B w.heap.size (xs.length+1) 147 [] 0 W0:=⟨b0,hown0,b1,b2,hB0,by omega⟩
 have hBw:w.heap.size<B:=by have:=(World.ownsRow.lt hown w.heap.size rfl).2;omega
 have hWr:Boxed W0 B 24 (.slice (some ⟨w.heap.size,0,none⟩) 0 (xs.length+1)):=b0
 rw [hW0]
 rw [hB]
 clear hW0 b0 b1 b2 hown0 hown hgrow hB1 Ti hWr hB
 refine wpIn_rangeFunc_ownG rfl (by omega) (gf := 149) (lb:=#[.pointer (some ⟨B+4,0,none⟩),.pointer (some ⟨B+3,0,none⟩)]) rfl trivial (enters_of Tryz.func149 (by kernel_rfl) rfl)
  (uD (B+3) (B+4) _ _ xs ys w W0 hB0 HL.out (by omega) (by omega) b3 b4 h g) Lh.trans (Tg (by omega) (by omega) (by omega)) (Below.refl _ _) (fun _=>rfl)
  (fun pre W=>∃ o cy,Hid (pG pre o cy)∧yH w B w.heap.size (xs.length+1) 147 o cy W)
  (fun c pre W=>False)
  (fun s X Y row hs hg hr=>by obtain ⟨o,cy,ha,hs⟩:=hs;exact ⟨o,cy,ha,hs.grown hg (by omega) hr⟩)
  (fun c s X Y row hs hg hr=>hs)
  ⟨[],0,pG.start,hS0⟩
  (fun x=>{ tmps:=#[.slice A xs.length c,.slice A2 ys.length c2,undef,undef,.slice none 0 0,.pointer (some ⟨B,0,none⟩),.pointer (some ⟨B+1+1,0,none⟩),.int .u32 (x.1.1:Int),.int .u32 (x.1.2:Int),.slice A xs.length c,.int .i64 (xs.length:Int),.slice A2 ys.length c2,.int .i64 (ys.length:Int),.bool false,undef,undef,.slice A xs.length c,.int .i64 (xs.length:Int),.int .i64 ((xs.length:Int)+1),.slice (some ⟨w.heap.size,0,none⟩) 0 (xs.length+1),.func (.func 147) #[] #[.pointer (some ⟨B+1,0,none⟩)],.slice A xs.length c,.slice A2 ys.length c2,.func (.func 149) #[] #[.pointer (some ⟨B+1+1+1+1,0,none⟩),.pointer (some ⟨B+1+1+1,0,none⟩)],.int .u32 (x.1.1:Int),.int .u32 (x.1.2:Int),undef,undef,undef,undef,undef,undef,undef,undef,undef,undef,undef,undef,undef],defers:=[] }) ?assign ?body ?done ?stop
 case assign =>
  intro l x W K hK
  gi_wp2
  exact hK
 case body =>
  rintro l pre x W ⟨o,cy,HA,hS⟩ hpl
  have hb0:=hS.box.cell
  have hf0:=hS.box.frozen
  have hb1:=hS.Li.cell
  have hf1:=hS.Li.frozen
  have hb2:=hS.TB.cell
  have hmx:Tryz.prog.follows .mixedOrders=true:=by kernel_rfl
  have hcy:=HA.out.carry
  have hlen:=HA.out.len
  have hol:o.length+1≤xs.length+1:=by omega
  have HA2:=Lib.hid (HA.out.step x)
  obtain ⟨d,hd⟩:∃ d,(x.1.1+x.1.2+cy)%4294967296=d:=⟨_,rfl⟩
  obtain ⟨cz,hcz⟩:∃ d,(x.1.1+x.1.2+cy)/4294967296=d:=⟨_,rfl⟩
  have hcall:=ow W.drew x.1.1 x.1.2 cy (B+1) x.2.1 x.2.2 hcy hb1 hf1
  rw [hd,hcz] at hcall HA2
  obtain ⟨W1,hW1⟩:∃ W1,W.drew.setCell ⟨B+1,0,none⟩ (.int .u32 (cz:Nat))=W1:=⟨_,rfl⟩
  rw [hW1] at hcall
  have hsz1:W1.heap.size=W.heap.size:=by rw [← hW1];simp [World.setCell]
  have hg1:W.grownBy W1 (some (B+1)):=by rw [← hW1];have hq:=grownBy_setCell' W.drew (B+1) (.int .u32 (cz:Nat));exact ⟨hq.os,hq.tape,hq.output,hq.size,hq.block⟩
  have hown1:(W1.alloc (.cells #[.int .u32 (d:Nat)] 57)).ownsRow w.heap.size 57 1 (.slice (some ⟨w.heap.size,0,none⟩) o.length (xs.length+1)) o.length (su o) :=
   World.ownsRow.alloc (World.ownsRow.kept hS.own hg1 (.inr (by simp [Value.ownBlock];omega))) _
  have hx0:=hS.box.kept hg1 (by intro e;injection e with e;omega)
  have hx2:=hS.TB.kept hg1 (by intro e;injection e with e;omega)
  have hx1:Boxed W1 (B+1) 57 (.int .u32 (cz:Nat)):=by rw [← hW1];exact Boxed.set (W:=W.drew) _ hS.Li
  have hxb:Below w.heap.size w W1:=hS.DI.grown hg1 hS.DI.size (fun k e=>by injection e with e;omega)
  have hxW:Below w.heap.size W W1:=(Below.refl _ W).grown hg1 hS.DI.size (fun k e=>by injection e with e;omega)
  have hko:KeepsOthers W W1:=by rw [← hW1];exact (KeepsOthers.drew W).trans (KeepsOthers.setCell _ _ _)
  obtain ⟨W2,hrun,hown2,hgrow2⟩:=run_append_fits (P:=Tryz.prog) (W1.alloc (.cells #[.int .u32 (d:Nat)] 57)) w.heap.size 24 24 57 i0 1 Tryz.underlying24 hi hz1 w.heap.size o.length (xs.length+1) (su o) hown1
   ⟨W1.heap.size,0,none⟩ 1 1 [.int .u32 (d:Nat)] rfl (by intro j u hj;cases j with | zero=>simp at hj;subst hj;simp [Addr.add] | succ j=>simp at hj) (by simp [Value.oneCell']) hol
  have hy0:=(hx0.alloc (.cells #[.int .u32 (d:Nat)] 57)).kept hgrow2 (by intro e;injection e with e;omega)
  have hy1:=(hx1.alloc (.cells #[.int .u32 (d:Nat)] 57)).kept hgrow2 (by intro e;injection e with e;omega)
  have hy2:=(hx2.alloc (.cells #[.int .u32 (d:Nat)] 57)).kept hgrow2 (by intro e;injection e with e;omega)
  have hyb:Below w.heap.size w W2:=(hxb.alloc hxb.size _).grown hgrow2 (by have:=hxb.size;rw [World.size_alloc];omega) (fun k e=>by injection e with e;omega)
  have hyW:Below w.heap.size W W2:=(hxW.alloc hxb.size _).grown hgrow2 (by have:=hxb.size;rw [World.size_alloc];omega) (fun k e=>by injection e with e;omega)
  have hkeep:∀ k,k<W.heap.size→k≠B+1→k≠w.heap.size→W2.heap[k]?=W.heap[k]?:=fun k h1 h2 h3 =>
   ((hgrow2.block k (by rw [World.size_alloc];omega) (fun e=>h3 (by injection e))).trans (Below.heap_alloc _ _ k (by omega))).trans (hg1.block k h1 (fun e=>h2 (by injection e)))
  have A9:KeepsOthers W W2:=(hko.trans (KeepsOthers.alloc _ _)).trans (KeepsOthers.of_grownBy hgrow2 fun j ob ej hj=>by
   cases ej
   rcases hown1.2 with ⟨h',_⟩ | ⟨g',cap',cur,h',_,hg,_⟩
   · cases h'
   · cases h';rw [hg] at hj;cases hj;rfl)
  have ac3:=hy0.cell
  have V8:=hx0.cell
  have V9:=(hx0.alloc (.cells #[.int .u32 (d:Nat)] 57)).cell
  have ac4:=hy0.frozen
  have HW1:=Lib.hid hsz1
  obtain ⟨ht1,ht2,ht3⟩:=jc hrun
  clear hrun hW1 hsz1 hd hcz hg1 hlen
  gi_wp2
  gi_region_with_o ((refine ⟨trivial,?_⟩;gi_at_call 147;refine (CallsIn.inRound l (callsIn_wide.2 hcall)).mono ?_;rintro e w' ⟨rfl,rfl⟩))
  all_goals gi_wp2
  all_goals
   have Wd:=hS.siz
   have ac5:=A9.size
   have hset:=grownBy_setCell' W2 B (.slice (some ⟨w.heap.size,0,none⟩) (o.length+1) (xs.length+1))
   have hrow:(W2.setCell ⟨B,0,none⟩ (.slice (some ⟨w.heap.size,0,none⟩) (o.length+1) (xs.length+1))).ownsRow w.heap.size 57 1 (.slice (some ⟨w.heap.size,0,none⟩) (o.length+1) (xs.length+1)) (o.length+1) (su o++[.int .u32 (d:Nat)]) :=
    World.ownsRow.kept hown2 hset (.inr (by simp only [Value.ownBlock];intro e;injection e with e;omega))
   refine ⟨(A9.trans (KeepsOthers.setCell _ _ _)).from _,⟨hyW.setCell (p:=⟨B,0,none⟩) (Nat.le_of_lt hBw) _,?_,?_⟩,o++[d],cz,HA2.out,?_,?_,hy1.other (by omega) _,hy2.other (by omega) _,hyb.setCell (p:=⟨B,0,none⟩) (Nat.le_of_lt hBw) _,?_⟩
   · exact (hset.block (B+3) (by omega) (fun e=>by injection e with e;omega)).trans (hkeep (B+3) (by omega) (by omega) (by omega))
   · exact (hset.block (B+4) (by omega) (fun e=>by injection e with e;omega)).trans (hkeep (B+4) (by omega) (by omega) (by omega))
   · rw [List.length_append];exact hy0.set _
   · unfold Own;rw [mW,List.length_append];exact hrow
   · have:=hset.size;omega
 case done =>
  rintro D l W hD hl ⟨o,cy,HA,hS⟩ hK
  have hb0:=hS.box.cell
  have hb1:=hS.Li.cell
  have hf1:=hS.Li.frozen
  have hb2:=hS.TB.cell
  have Wd:=hS.siz
  have hmx:Tryz.prog.follows .mixedOrders=true:=by kernel_rfl
  have hcy:=HA.out.carry
  have hlen:=HA.out.len
  have hdone:=HA.out.done hl HL.out
  have ZN:=rP HA.out.lt (show cy<4294967296 by omega)
  have hol:o.length=xs.length:=by rw [hlen];have:=congrArg List.length hl;simpa [jE] using this
  have hcall:=ow W.drew 0 0 cy (B+1) (by decide) (by decide) hcy hb1 hf1
  rw [show (0+0+cy)%4294967296=cy by omega,show (0+0+cy)/4294967296=0 by omega,show (((0:Nat)):Int)=0 from rfl] at hcall
  obtain ⟨W1,hW1⟩:∃ W1,W.drew.setCell ⟨B+1,0,none⟩ (.int .u32 0)=W1:=⟨_,rfl⟩
  rw [hW1] at hcall
  have hsz1:W1.heap.size=W.heap.size:=by rw [← hW1];simp [World.setCell]
  have hg1:W.grownBy W1 (some (B+1)):=by rw [← hW1];have hq:=grownBy_setCell' W.drew (B+1) (.int .u32 0);exact ⟨hq.os,hq.tape,hq.output,hq.size,hq.block⟩
  have hown1:(W1.alloc (.cells #[.int .u32 (cy:Nat)] 57)).ownsRow w.heap.size 57 1 (.slice (some ⟨w.heap.size,0,none⟩) o.length (xs.length+1)) o.length (su o) :=
   World.ownsRow.alloc (World.ownsRow.kept hS.own hg1 (.inr (by simp [Value.ownBlock];omega))) _
  have hx0:=hS.box.kept hg1 (by intro e;injection e with e;omega)
  have hxb:Below w.heap.size w W1:=hS.DI.grown hg1 hS.DI.size (fun k e=>by injection e with e;omega)
  have hko:KeepsOthers W W1:=by rw [← hW1];exact (KeepsOthers.drew W).trans (KeepsOthers.setCell _ _ _)
  obtain ⟨W2,hrun,hown2,hgrow2⟩:=run_append_fits (P:=Tryz.prog) (W1.alloc (.cells #[.int .u32 (cy:Nat)] 57)) w.heap.size 24 24 57 i0 1 Tryz.underlying24 hi hz1 w.heap.size o.length (xs.length+1) (su o) hown1
   ⟨W1.heap.size,0,none⟩ 1 1 [.int .u32 (cy:Nat)] rfl (by intro j u hj;cases j with | zero=>simp at hj;subst hj;simp [Addr.add] | succ j=>simp at hj) (by simp [Value.oneCell']) (by omega)
  have hyb:Below w.heap.size w W2:=(hxb.alloc hxb.size _).grown hgrow2 (by have:=hxb.size;rw [World.size_alloc];omega) (fun k e=>by injection e with e;omega)
  have A9:KeepsOthers W W2:=(hko.trans (KeepsOthers.alloc _ _)).trans (KeepsOthers.of_grownBy hgrow2 fun j ob ej hj=>by
   cases ej
   rcases hown1.2 with ⟨h',_⟩ | ⟨g',cap',cur,h',_,hg,_⟩
   · cases h'
   · cases h';rw [hg] at hj;cases hj;rfl)
  have hK2:=A9.same D _ hK rfl
  have hu:U W2 (.slice (some ⟨w.heap.size,0,none⟩) (o.length+1) (xs.length+1)) (o++[cy]):=by
   refine Own.BJ (base:=w.heap.size) ?_ ZN (by rw [List.length_append,List.length_singleton];omega)
   unfold Own;rw [mW,List.length_append];exact hown2
  have V8:=hx0.cell
  have V9:=(hx0.alloc (.cells #[.int .u32 (cy:Nat)] 57)).cell
  obtain ⟨ht1,ht2,ht3⟩:=jc hrun
  have HD:=Lib.hid hdone
  clear hrun hW1 hsz1 hg1 hlen hdone hol hl
  gi_wp2
  refine AJ ?_
  gi_region_with_o (first | (refine ⟨trivial,?_⟩;gi_at_call 147;refine (callsIn_wide.2 hcall).mono ?_;rintro e w' ⟨rfl,rfl⟩) | (refine ⟨trivial,?_⟩;gi_at_call 92;refine (callsIn_wide.2 (lF _ _ _ hu)).mono ?_;rintro e w' ⟨⟨z,rfl,hz⟩,rfl⟩))
  all_goals unfold wT
  all_goals gi_wp2
  all_goals
   refine ⟨by simp,.inl ⟨_,_,rfl,run_takeDeferred hK2,?_⟩⟩
   refine ⟨_,results_tmp rfl _ _ _,⟨_,rfl,?_⟩,hyb.trans (belowK_b (w:=w) (Nat.le_refl _) _ D _ _ (by omega) hK2 rfl rfl)⟩
   rw [HD.out] at hz
   exact hz.put hK2 rfl _
 case stop =>
  rintro D cc pre W hD _ h _
  exact h.elim
end Go.Proofs.YtgcieamfidoaoaaGreatDoor
/- nat.Add. -/
namespace Go.Proofs.YtgcieamfidoaoaaGreatDoor
open Go.RowKit Go.Shelf
attribute [local go_sem] Oper.semAt_some
attribute [local go_sem ↓] oL
attribute [local go_sem] iy
set_option maxRecDepth 100000 in
theorem add_lt (w:World) (v u:Value) (xs ys:List Nat) (h:U w v xs) (g:U w u ys) (hl:ys.length<xs.length) (hm:xs.length≤1000000000) :
  CallsIn Fence.wide 4 Tryz.prog 73 #[u,v] w fun e w'=>(∃ z,e = .returned z∧Un w' z (val xs+val ys))∧Below w.heap.size w w':=by
 obtain ⟨A,c,rfl,⟨hc,_⟩,hx,hr⟩:=id h
 obtain ⟨A2,c2,rfl,⟨hc2,_⟩,hx2,hr2⟩:=id g
 clear hr hr2
 have hl1:decide (ys.length<xs.length)=true:=by rw [decide_eq_true_iff];omega
 have HL:=Lib.hid (Nat.le_of_lt hl)
 clear hl
 obtain ⟨i0,hi,hz0,hz1,hz2⟩:=info_parts info57
 refine callsIn_of_wp_marks Tryz.func73 rfl trivial ?_ rfl
 simp only [Tryz.ntmps73,List.size_toArray,List.length_cons,List.length_nil,Nat.reduceAdd,Nat.reduceSub,Array.replicate_succ,Array.replicate_zero,List.push_toArray,List.append_toArray,List.nil_append,List.cons_append]
 gi_wp2_with (first | (gi_at_make;refine wpListIn_make_own _ rfl _ _ 24 rfl w.heap.size 57 i0 (.int .u32 0) 1 Tryz.underlying24 hi hz0 hz1 _ _ _ (xs.length+1) rfl rfl (by omega) (by rw [hz2];omega) (by unfold maxLen;omega) (Nat.le_refl _) ?_;intro w1 hown hgrow) | (refine ⟨trivial,?_⟩;gi_at_call 124;refine (callsIn_wide.2 (AB _)).mono ?_;rintro e w' ⟨rfl,rfl⟩) | (refine ⟨trivial,?_⟩;gi_at_call 125;refine (callsIn_wide.2 (uC _ _ _ _ _ _ _)).mono ?_;rintro e w' ⟨rfl,rfl⟩))
 obtain ⟨B,hB⟩:∃ B,w1.heap.size=B:=⟨_,rfl⟩
 obtain ⟨W0,hW0⟩:∃ W0,(((((w1.alloc (.cells #[.slice (some ⟨w.heap.size,0,none⟩) 0 (xs.length+1)] 24)).alloc (.cells #[.int .u32 0] 57)).alloc (.cells #[.func (.func 147) #[] #[.pointer (some ⟨w1.heap.size+1,0,none⟩)]] 127)).alloc (.cells #[.slice A xs.length c] 24)).alloc (.cells #[.slice A2 ys.length c2] 24))=W0:=⟨_,rfl⟩
 have hB1:Below w.heap.size w w1:=(Below.refl _ _).grown hgrow (Nat.le_refl _) (fun _ h=>by cases h)
 have Ti:=hB1.size
 have hB0:Below w.heap.size w W0:=by
  rw [← hW0]
  exact ((((hB1.alloc (by omega) _).alloc (by simp;omega) _).alloc (by simp;omega) _).alloc (by simp;omega) _).alloc (by simp;omega) _
 have hsz:W0.heap.size=B+5:=by rw [← hW0,← hB];simp
 have b0:Boxed W0 B 24 (.slice (some ⟨w.heap.size,0,none⟩) 0 (xs.length+1)):=by
  rw [← hW0,← hB];exact ((((Boxed.new w1 24 _).alloc _).alloc _).alloc _).alloc _
 have b1:Boxed W0 (B+1) 57 (.int .u32 0):=by
  rw [← hW0,← hB]
  have:=((((Boxed.new (w1.alloc (.cells #[.slice (some ⟨w.heap.size,0,none⟩) 0 (xs.length+1)] 24)) 57 (.int .u32 0)).alloc (.cells #[.func (.func 147) #[] #[.pointer (some ⟨w1.heap.size+1,0,none⟩)]] 127)).alloc (.cells #[.slice A xs.length c] 24)).alloc (.cells #[.slice A2 ys.length c2] 24))
  simpa using this
 have b2:Boxed W0 (B+2) 127 (.func (.func 147) #[] #[.pointer (some ⟨B+1,0,none⟩)]):=by
  rw [← hW0,← hB]
  have:=(((Boxed.new ((w1.alloc (.cells #[.slice (some ⟨w.heap.size,0,none⟩) 0 (xs.length+1)] 24)).alloc (.cells #[.int .u32 0] 57)) 127 (.func (.func 147) #[] #[.pointer (some ⟨w1.heap.size+1,0,none⟩)])).alloc (.cells #[.slice A xs.length c] 24)).alloc (.cells #[.slice A2 ys.length c2] 24))
  simpa using this
 have b3:Boxed W0 (B+3) 24 (.slice A xs.length c):=by
  rw [← hW0,← hB]
  have:=((Boxed.new (((w1.alloc (.cells #[.slice (some ⟨w.heap.size,0,none⟩) 0 (xs.length+1)] 24)).alloc (.cells #[.int .u32 0] 57)).alloc (.cells #[.func (.func 147) #[] #[.pointer (some ⟨w1.heap.size+1,0,none⟩)]] 127)) 24 (.slice A xs.length c)).alloc (.cells #[.slice A2 ys.length c2] 24))
  simpa using this
 have b4:Boxed W0 (B+4) 24 (.slice A2 ys.length c2):=by
  rw [← hW0,← hB]
  have:=(Boxed.new ((((w1.alloc (.cells #[.slice (some ⟨w.heap.size,0,none⟩) 0 (xs.length+1)] 24)).alloc (.cells #[.int .u32 0] 57)).alloc (.cells #[.func (.func 147) #[] #[.pointer (some ⟨w1.heap.size+1,0,none⟩)]] 127)).alloc (.cells #[.slice A xs.length c] 24)) 24 (.slice A2 ys.length c2))
  simpa using this
 have hown0:Own W0 w.heap.size (.slice (some ⟨w.heap.size,0,none⟩) ([]:List Nat).length (xs.length+1)) []:=by
  rw [← hW0];exact ((((World.ownsRow.alloc hown _).alloc _).alloc _).alloc _).alloc _
 have hS0:yH w B w.heap.size (xs.length+1) 147 [] 0 W0:=⟨b0,hown0,b1,b2,hB0,by omega⟩
 have hBw:w.heap.size<B:=by have:=(World.ownsRow.lt hown w.heap.size rfl).2;omega
 have hWr:Boxed W0 B 24 (.slice (some ⟨w.heap.size,0,none⟩) 0 (xs.length+1)):=b0
 rw [hW0]
 rw [hB]
 clear hW0 b0 b1 b2 hown0 hown hgrow hB1 Ti hWr hB
 refine wpIn_rangeFunc_ownG rfl (by omega) (gf := 149) (lb:=#[.pointer (some ⟨B+4,0,none⟩),.pointer (some ⟨B+3,0,none⟩)]) rfl trivial (enters_of Tryz.func149 (by kernel_rfl) rfl)
  (uD (B+3) (B+4) _ _ xs ys w W0 hB0 HL.out (by omega) (by omega) b3 b4 h g) Lh.trans (Tg (by omega) (by omega) (by omega)) (Below.refl _ _) (fun _=>rfl)
  (fun pre W=>∃ o cy,Hid (pG pre o cy)∧yH w B w.heap.size (xs.length+1) 147 o cy W)
  (fun c pre W=>False)
  (fun s X Y row hs hg hr=>by obtain ⟨o,cy,ha,hs⟩:=hs;exact ⟨o,cy,ha,hs.grown hg (by omega) hr⟩)
  (fun c s X Y row hs hg hr=>hs)
  ⟨[],0,pG.start,hS0⟩
  (fun x=>{ tmps:=#[.slice A xs.length c,.slice A2 ys.length c2,undef,undef,.slice none 0 0,.pointer (some ⟨B,0,none⟩),.pointer (some ⟨B+1+1,0,none⟩),.int .u32 (x.1.1:Int),.int .u32 (x.1.2:Int),.slice A2 ys.length c2,.int .i64 (ys.length:Int),.slice A xs.length c,.int .i64 (xs.length:Int),.bool true,.slice A xs.length c,.slice A2 ys.length c2,.slice A xs.length c,.int .i64 (xs.length:Int),.int .i64 ((xs.length:Int)+1),.slice (some ⟨w.heap.size,0,none⟩) 0 (xs.length+1),.func (.func 147) #[] #[.pointer (some ⟨B+1,0,none⟩)],.slice A xs.length c,.slice A2 ys.length c2,.func (.func 149) #[] #[.pointer (some ⟨B+1+1+1+1,0,none⟩),.pointer (some ⟨B+1+1+1,0,none⟩)],.int .u32 (x.1.1:Int),.int .u32 (x.1.2:Int),undef,undef,undef,undef,undef,undef,undef,undef,undef,undef,undef,undef,undef],defers:=[] }) ?assign ?body ?done ?stop
 case assign =>
  intro l x W K hK
  gi_wp2
  exact hK
 case body =>
  rintro l pre x W ⟨o,cy,HA,hS⟩ hpl
  have hb0:=hS.box.cell
  have hf0:=hS.box.frozen
  have hb1:=hS.Li.cell
  have hf1:=hS.Li.frozen
  have hb2:=hS.TB.cell
  have hmx:Tryz.prog.follows .mixedOrders=true:=by kernel_rfl
  have hcy:=HA.out.carry
  have hlen:=HA.out.len
  have hol:o.length+1≤xs.length+1:=by omega
  have HA2:=Lib.hid (HA.out.step x)
  obtain ⟨d,hd⟩:∃ d,(x.1.1+x.1.2+cy)%4294967296=d:=⟨_,rfl⟩
  obtain ⟨cz,hcz⟩:∃ d,(x.1.1+x.1.2+cy)/4294967296=d:=⟨_,rfl⟩
  have hcall:=ow W.drew x.1.1 x.1.2 cy (B+1) x.2.1 x.2.2 hcy hb1 hf1
  rw [hd,hcz] at hcall HA2
  obtain ⟨W1,hW1⟩:∃ W1,W.drew.setCell ⟨B+1,0,none⟩ (.int .u32 (cz:Nat))=W1:=⟨_,rfl⟩
  rw [hW1] at hcall
  have hsz1:W1.heap.size=W.heap.size:=by rw [← hW1];simp [World.setCell]
  have hg1:W.grownBy W1 (some (B+1)):=by rw [← hW1];have hq:=grownBy_setCell' W.drew (B+1) (.int .u32 (cz:Nat));exact ⟨hq.os,hq.tape,hq.output,hq.size,hq.block⟩
  have hown1:(W1.alloc (.cells #[.int .u32 (d:Nat)] 57)).ownsRow w.heap.size 57 1 (.slice (some ⟨w.heap.size,0,none⟩) o.length (xs.length+1)) o.length (su o) :=
   World.ownsRow.alloc (World.ownsRow.kept hS.own hg1 (.inr (by simp [Value.ownBlock];omega))) _
  have hx0:=hS.box.kept hg1 (by intro e;injection e with e;omega)
  have hx2:=hS.TB.kept hg1 (by intro e;injection e with e;omega)
  have hx1:Boxed W1 (B+1) 57 (.int .u32 (cz:Nat)):=by rw [← hW1];exact Boxed.set (W:=W.drew) _ hS.Li
  have hxb:Below w.heap.size w W1:=hS.DI.grown hg1 hS.DI.size (fun k e=>by injection e with e;omega)
  have hxW:Below w.heap.size W W1:=(Below.refl _ W).grown hg1 hS.DI.size (fun k e=>by injection e with e;omega)
  have hko:KeepsOthers W W1:=by rw [← hW1];exact (KeepsOthers.drew W).trans (KeepsOthers.setCell _ _ _)
  obtain ⟨W2,hrun,hown2,hgrow2⟩:=run_append_fits (P:=Tryz.prog) (W1.alloc (.cells #[.int .u32 (d:Nat)] 57)) w.heap.size 24 24 57 i0 1 Tryz.underlying24 hi hz1 w.heap.size o.length (xs.length+1) (su o) hown1
   ⟨W1.heap.size,0,none⟩ 1 1 [.int .u32 (d:Nat)] rfl (by intro j u hj;cases j with | zero=>simp at hj;subst hj;simp [Addr.add] | succ j=>simp at hj) (by simp [Value.oneCell']) hol
  have hy0:=(hx0.alloc (.cells #[.int .u32 (d:Nat)] 57)).kept hgrow2 (by intro e;injection e with e;omega)
  have hy1:=(hx1.alloc (.cells #[.int .u32 (d:Nat)] 57)).kept hgrow2 (by intro e;injection e with e;omega)
  have hy2:=(hx2.alloc (.cells #[.int .u32 (d:Nat)] 57)).kept hgrow2 (by intro e;injection e with e;omega)
  have hyb:Below w.heap.size w W2:=(hxb.alloc hxb.size _).grown hgrow2 (by have:=hxb.size;rw [World.size_alloc];omega) (fun k e=>by injection e with e;omega)
  have hyW:Below w.heap.size W W2:=(hxW.alloc hxb.size _).grown hgrow2 (by have:=hxb.size;rw [World.size_alloc];omega) (fun k e=>by injection e with e;omega)
  have hkeep:∀ k,k<W.heap.size→k≠B+1→k≠w.heap.size→W2.heap[k]?=W.heap[k]?:=fun k h1 h2 h3 =>
   ((hgrow2.block k (by rw [World.size_alloc];omega) (fun e=>h3 (by injection e))).trans (Below.heap_alloc _ _ k (by omega))).trans (hg1.block k h1 (fun e=>h2 (by injection e)))
  have A9:KeepsOthers W W2:=(hko.trans (KeepsOthers.alloc _ _)).trans (KeepsOthers.of_grownBy hgrow2 fun j ob ej hj=>by
   cases ej
   rcases hown1.2 with ⟨h',_⟩ | ⟨g',cap',cur,h',_,hg,_⟩
   · cases h'
   · cases h';rw [hg] at hj;cases hj;rfl)
  have ac3:=hy0.cell
  have V8:=hx0.cell
  have V9:=(hx0.alloc (.cells #[.int .u32 (d:Nat)] 57)).cell
  have ac4:=hy0.frozen
  have HW1:=Lib.hid hsz1
  obtain ⟨ht1,ht2,ht3⟩:=jc hrun
  clear hrun hW1 hsz1 hd hcz hg1 hlen
  gi_wp2
  gi_region_with_o ((refine ⟨trivial,?_⟩;gi_at_call 147;refine (CallsIn.inRound l (callsIn_wide.2 hcall)).mono ?_;rintro e w' ⟨rfl,rfl⟩))
  all_goals gi_wp2
  all_goals
   have Wd:=hS.siz
   have ac5:=A9.size
   have hset:=grownBy_setCell' W2 B (.slice (some ⟨w.heap.size,0,none⟩) (o.length+1) (xs.length+1))
   have hrow:(W2.setCell ⟨B,0,none⟩ (.slice (some ⟨w.heap.size,0,none⟩) (o.length+1) (xs.length+1))).ownsRow w.heap.size 57 1 (.slice (some ⟨w.heap.size,0,none⟩) (o.length+1) (xs.length+1)) (o.length+1) (su o++[.int .u32 (d:Nat)]) :=
    World.ownsRow.kept hown2 hset (.inr (by simp only [Value.ownBlock];intro e;injection e with e;omega))
   refine ⟨(A9.trans (KeepsOthers.setCell _ _ _)).from _,⟨hyW.setCell (p:=⟨B,0,none⟩) (Nat.le_of_lt hBw) _,?_,?_⟩,o++[d],cz,HA2.out,?_,?_,hy1.other (by omega) _,hy2.other (by omega) _,hyb.setCell (p:=⟨B,0,none⟩) (Nat.le_of_lt hBw) _,?_⟩
   · exact (hset.block (B+3) (by omega) (fun e=>by injection e with e;omega)).trans (hkeep (B+3) (by omega) (by omega) (by omega))
   · exact (hset.block (B+4) (by omega) (fun e=>by injection e with e;omega)).trans (hkeep (B+4) (by omega) (by omega) (by omega))
   · rw [List.length_append];exact hy0.set _
   · unfold Own;rw [mW,List.length_append];exact hrow
   · have:=hset.size;omega
 case done =>
  rintro D l W hD hl ⟨o,cy,HA,hS⟩ hK
  have hb0:=hS.box.cell
  have hb1:=hS.Li.cell
  have hf1:=hS.Li.frozen
  have hb2:=hS.TB.cell
  have Wd:=hS.siz
  have hmx:Tryz.prog.follows .mixedOrders=true:=by kernel_rfl
  have hcy:=HA.out.carry
  have hlen:=HA.out.len
  have hdone:=HA.out.done hl HL.out
  have ZN:=rP HA.out.lt (show cy<4294967296 by omega)
  have hol:o.length=xs.length:=by rw [hlen];have:=congrArg List.length hl;simpa [jE] using this
  have hcall:=ow W.drew 0 0 cy (B+1) (by decide) (by decide) hcy hb1 hf1
  rw [show (0+0+cy)%4294967296=cy by omega,show (0+0+cy)/4294967296=0 by omega,show (((0:Nat)):Int)=0 from rfl] at hcall
  obtain ⟨W1,hW1⟩:∃ W1,W.drew.setCell ⟨B+1,0,none⟩ (.int .u32 0)=W1:=⟨_,rfl⟩
  rw [hW1] at hcall
  have hsz1:W1.heap.size=W.heap.size:=by rw [← hW1];simp [World.setCell]
  have hg1:W.grownBy W1 (some (B+1)):=by rw [← hW1];have hq:=grownBy_setCell' W.drew (B+1) (.int .u32 0);exact ⟨hq.os,hq.tape,hq.output,hq.size,hq.block⟩
  have hown1:(W1.alloc (.cells #[.int .u32 (cy:Nat)] 57)).ownsRow w.heap.size 57 1 (.slice (some ⟨w.heap.size,0,none⟩) o.length (xs.length+1)) o.length (su o) :=
   World.ownsRow.alloc (World.ownsRow.kept hS.own hg1 (.inr (by simp [Value.ownBlock];omega))) _
  have hx0:=hS.box.kept hg1 (by intro e;injection e with e;omega)
  have hxb:Below w.heap.size w W1:=hS.DI.grown hg1 hS.DI.size (fun k e=>by injection e with e;omega)
  have hko:KeepsOthers W W1:=by rw [← hW1];exact (KeepsOthers.drew W).trans (KeepsOthers.setCell _ _ _)
  obtain ⟨W2,hrun,hown2,hgrow2⟩:=run_append_fits (P:=Tryz.prog) (W1.alloc (.cells #[.int .u32 (cy:Nat)] 57)) w.heap.size 24 24 57 i0 1 Tryz.underlying24 hi hz1 w.heap.size o.length (xs.length+1) (su o) hown1
   ⟨W1.heap.size,0,none⟩ 1 1 [.int .u32 (cy:Nat)] rfl (by intro j u hj;cases j with | zero=>simp at hj;subst hj;simp [Addr.add] | succ j=>simp at hj) (by simp [Value.oneCell']) (by omega)
  have hyb:Below w.heap.size w W2:=(hxb.alloc hxb.size _).grown hgrow2 (by have:=hxb.size;rw [World.size_alloc];omega) (fun k e=>by injection e with e;omega)
  have A9:KeepsOthers W W2:=(hko.trans (KeepsOthers.alloc _ _)).trans (KeepsOthers.of_grownBy hgrow2 fun j ob ej hj=>by
   cases ej
   rcases hown1.2 with ⟨h',_⟩ | ⟨g',cap',cur,h',_,hg,_⟩
   · cases h'
   · cases h';rw [hg] at hj;cases hj;rfl)
  have hK2:=A9.same D _ hK rfl
  have hu:U W2 (.slice (some ⟨w.heap.size,0,none⟩) (o.length+1) (xs.length+1)) (o++[cy]):=by
   refine Own.BJ (base:=w.heap.size) ?_ ZN (by rw [List.length_append,List.length_singleton];omega)
   unfold Own;rw [mW,List.length_append];exact hown2
  have V8:=hx0.cell
  have V9:=(hx0.alloc (.cells #[.int .u32 (cy:Nat)] 57)).cell
  obtain ⟨ht1,ht2,ht3⟩:=jc hrun
  have HD:=Lib.hid hdone
  clear hrun hW1 hsz1 hg1 hlen hdone hol hl
  gi_wp2
  refine AJ ?_
  gi_region_with_o (first | (refine ⟨trivial,?_⟩;gi_at_call 147;refine (callsIn_wide.2 hcall).mono ?_;rintro e w' ⟨rfl,rfl⟩) | (refine ⟨trivial,?_⟩;gi_at_call 92;refine (callsIn_wide.2 (lF _ _ _ hu)).mono ?_;rintro e w' ⟨⟨z,rfl,hz⟩,rfl⟩))
  all_goals unfold wT
  all_goals gi_wp2
  all_goals
   refine ⟨by simp,.inl ⟨_,_,rfl,run_takeDeferred hK2,?_⟩⟩
   refine ⟨_,results_tmp rfl _ _ _,⟨_,rfl,?_⟩,hyb.trans (belowK_b (w:=w) (Nat.le_refl _) _ D _ _ (by omega) hK2 rfl rfl)⟩
   rw [HD.out] at hz
   exact hz.put hK2 rfl _
 case stop =>
  rintro D cc pre W hD _ h _
  exact h.elim
theorem Lj (w:World) (v u:Value) (xs ys:List Nat) (h:U w v xs) (g:U w u ys) (hm:xs.length≤1000000000) (hm2:ys.length≤1000000000) :
  Calls Tryz.prog 73 #[v,u] w fun e w'=>(∃ z,e = .returned z∧Un w' z (val xs+val ys))∧Below w.heap.size w w':=by
 rcases Nat.lt_or_ge xs.length ys.length with hl | hl
 · have:=callsIn_wide.1 (add_lt w u v ys xs g h hl hm2)
   rwa [Nat.add_comm] at this
 · exact callsIn_wide.1 (ZM w v u xs ys h g hl hm)
end Go.Proofs.YtgcieamfidoaoaaGreatDoor
