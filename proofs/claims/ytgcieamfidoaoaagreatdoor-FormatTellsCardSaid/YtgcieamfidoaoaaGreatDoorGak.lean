/- Base. -/
import Derived.Test.YtgcieamfidoaoaaGreatDoorGaj
set_option linter.all false
set_option maxHeartbeats 8000000
namespace Go.Proofs.YtgcieamfidoaoaaGreatDoor
open Go.Proofs.Tryz
open Go.RowKit
abbrev NC:={ p:Nat × Nat // p.1<4294967296∧p.2<4294967296 }
def kN (xs ys:List Nat) (k:Nat):List (Nat × Nat):=(List.range k).map fun j=>(lb xs j,lb ys j)
theorem xZ (xs ys:List Nat) (k:Nat):kN xs ys (k+1)=kN xs ys k++[(lb xs k,lb ys k)]:=by simp [kN,List.range_succ]
def firsts (l:List NC):List Nat:=l.map (·.1.1)
def seconds (l:List NC):List Nat:=l.map (·.1.2)
theorem rV (xs:List Nat) (L:Nat) (h:xs.length≤L):val ((List.range L).map fun j=>lb xs j)=val xs:=by
 rw [← ND ((List.range L).map fun j=>lb xs j) xs.length]
 · congr 1;apply ww
   · simp;omega
   · intro j hj;simp at hj;rw [kC (by omega)];simp [lb,show j<L by omega]
 · intro j h1 h2;simp at h2;simp [h2,qV h1]
theorem Hf {l:List NC} {xs ys:List Nat} (h:l.map (·.1)=kN xs ys xs.length):val (firsts l)=val xs:=by
 have:firsts l=(List.range xs.length).map fun j=>lb xs j:=by have:=congrArg (List.map Prod.fst) h;simpa [firsts,kN,List.map_map,Function.comp_def] using this
 rw [this,rV _ _ (Nat.le_refl _)]
theorem DT {l:List NC} {xs ys:List Nat} (h:l.map (·.1)=kN xs ys xs.length) (hl:ys.length≤xs.length):val (seconds l)=val ys:=by
 have:seconds l=(List.range xs.length).map fun j=>lb ys j:=by have:=congrArg (List.map Prod.snd) h;simpa [seconds,kN,List.map_map,Function.comp_def] using this
 rw [this,rV _ _ hl]
structure rW (pre:List NC) (o:List Nat) (c:Nat):Prop where
 len:o.length=pre.length
 lt:∀ x∈o,x<4294967296
 carry:c≤1
 val_eq:val o+c*4294967296^pre.length=val (firsts pre)+val (seconds pre)
theorem rW.start:rW [] [] 0:=⟨rfl,by simp,by omega,by simp [firsts,seconds,val]⟩
theorem rW.step {pre:List NC} {o:List Nat} {c:Nat} (h:rW pre o c) (p:NC) :rW (pre++[p]) (o++[(p.1.1+p.1.2+c)%4294967296]) ((p.1.1+p.1.2+c)/4294967296):=by
 have h1:=p.2.1;have h2:=p.2.2;have h3:=h.carry;refine ⟨by simp [h.len],vE h.lt (Nat.mod_lt _ (by decide)),by omega,?_⟩;have e1:firsts (pre++[p])=firsts pre++[p.1.1]:=by simp [firsts]
 have e2:seconds (pre++[p])=seconds pre++[p.1.2]:=by simp [seconds]
 have l1:(firsts pre).length=pre.length:=by simp [firsts]
 have l2:(seconds pre).length=pre.length:=by simp [seconds]
 rw [e1,e2,val_append,val_append,val_append,l1,l2,h.len];simp only [val,Nat.mul_zero,Nat.add_zero,List.length_append,List.length_singleton,Nat.pow_succ];have e:=h.val_eq;generalize 4294967296^pre.length=B at *;have e3:(p.1.1+p.1.2+c)=(p.1.1+p.1.2+c)%4294967296+(p.1.1+p.1.2+c)/4294967296*4294967296:=by omega
 have e4:(p.1.1+p.1.2+c)*B=(p.1.1+p.1.2+c)%4294967296*B+(p.1.1+p.1.2+c)/4294967296*4294967296*B:=by
  conv=>lhs;rw [e3]
  rw [Nat.add_mul]
 rw [Nat.add_mul,Nat.add_mul] at e4;have e5:(p.1.1+p.1.2+c)/4294967296*(B*4294967296)=(p.1.1+p.1.2+c)/4294967296*4294967296*B:=by rw [Nat.mul_comm B 4294967296,← Nat.mul_assoc]
 rw [e5,Nat.mul_comm B,Nat.mul_comm B,Nat.mul_comm B];omega
theorem rW.done {pre:List NC} {o:List Nat} {c:Nat} (h:rW pre o c) {xs ys:List Nat} (hp:pre.map (·.1)=kN xs ys xs.length) (hl:ys.length≤xs.length) :val (o++[c])=val xs+val ys:=by rw [val_append,← Hf hp,← DT hp hl,← h.val_eq,h.len];simp only [val,Nat.mul_zero,Nat.add_zero];rw [Nat.mul_comm c]
structure vO (pre:List NC) (o:List Nat) (c:Nat):Prop where
 len:o.length=pre.length
 lt:∀ x∈o,x<4294967296
 carry:c≤1
 val_eq:val o+val (seconds pre)=val (firsts pre)+c*4294967296^pre.length
theorem vO.start:vO [] [] 0:=⟨rfl,by simp,by omega,by simp [firsts,seconds,val]⟩
def qJ (x y c:Nat):Nat:=(x+4294967296+4294967296-y-c)%4294967296
def vJ (x y c:Nat):Nat:=if x<y+c then 1 else 0
theorem BJ (x y c:Nat) (h1:x<4294967296) (h2:y<4294967296) (h3:c≤1):qJ x y c+y+c=x+vJ x y c*4294967296:=by
 unfold qJ vJ;split
 · rename_i h;have e:(x+4294967296+4294967296-y-c)%4294967296=x+4294967296-y-c:=(by rw [show x+4294967296+4294967296-y-c=(x+4294967296-y-c)+4294967296 by omega,Nat.add_mod_right,Nat.mod_eq_of_lt (by omega)]);rw [e];omega
 · rename_i h;have e:(x+4294967296+4294967296-y-c)%4294967296=x-y-c:=(by rw [show x+4294967296+4294967296-y-c=(x-y-c)+4294967296+4294967296 by omega,Nat.add_mod_right,Nat.add_mod_right,Nat.mod_eq_of_lt (by omega)]);rw [e];omega
theorem vK (x y c:Nat):qJ x y c<4294967296:=by unfold qJ;exact Nat.mod_lt _ (by decide)
theorem BI (x y c:Nat):vJ x y c≤1:=by unfold vJ;split<;>omega
theorem val_one (x:Nat):val [x]=x:=rfl
theorem vO.step {pre:List NC} {o:List Nat} {c:Nat} (h:vO pre o c) (p:NC) :vO (pre++[p]) (o++[qJ p.1.1 p.1.2 c]) (vJ p.1.1 p.1.2 c):=by
 have h1:=p.2.1;have h2:=p.2.2;have h3:=h.carry;have hs:=BJ p.1.1 p.1.2 c h1 h2 h3;have k1:=vK p.1.1 p.1.2 c;have k2:=BI p.1.1 p.1.2 c;generalize qJ p.1.1 p.1.2 c=d at *;generalize vJ p.1.1 p.1.2 c=f at *;refine ⟨by simp [h.len],vE h.lt k1,k2,?_⟩;have e1:firsts (pre++[p])=firsts pre++[p.1.1]:=by simp [firsts]
 have e2:seconds (pre++[p])=seconds pre++[p.1.2]:=by simp [seconds]
 have l1:(firsts pre).length=pre.length:=by simp [firsts]
 have l2:(seconds pre).length=pre.length:=by simp [seconds]
 rw [e1,e2,val_append,val_append,val_append,l1,l2,h.len,val_one,val_one,val_one,List.length_append,List.length_singleton,Nat.pow_succ];have e:=h.val_eq;generalize 4294967296^pre.length=B at *;have e4:(d+p.1.2+c)*B=(p.1.1+f*4294967296)*B:=by rw [hs]
 rw [Nat.add_mul,Nat.add_mul,Nat.add_mul] at e4;have e5:f*(B*4294967296)=f*4294967296*B:=by rw [Nat.mul_comm B 4294967296,← Nat.mul_assoc]
 rw [e5,Nat.mul_comm B,Nat.mul_comm B,Nat.mul_comm B];omega
theorem vO.done {pre:List NC} {o:List Nat} {c:Nat} (h:vO pre o c) {xs ys:List Nat} (hp:pre.map (·.1)=kN xs ys xs.length) (hl:ys.length≤xs.length) (hge:val ys≤val xs) :val o=val xs-val ys:=by
 have e:=h.val_eq;rw [Hf hp,DT hp hl] at e;have hlt:=ru o h.lt;rw [h.len] at hlt;have hc:=h.carry;generalize 4294967296^pre.length=B at *;have:c=0∨c=1:=by omega
 rcases this with rfl | rfl<;>omega
section
open Go.Shelf
set_option maxRecDepth 100000
theorem NE (w:World) (x y c:Nat) (hx:x<4294967296) (hy:y<4294967296) (hc:c≤1) :Calls prog 148 #[.int .u32 x,.int .u32 y,.int .u32 c] w fun e w'=>e = .returned (.tuple #[.int .u32 ((x+y+c)%4294967296:Nat),.int .u32 ((x+y+c)/4294967296:Nat)])∧w=w':=by
 have h1:((x:Nat):Int)<4294967296:=by omega
 have h2:((y:Nat):Int)<4294967296:=by omega
 have h3:((c:Nat):Int)≤1:=by omega
 clear hx hy hc;go_enter func148,ntmps148;go_wp2;go_ret2;exact ⟨by rw [Int.natCast_emod,Int.natCast_ediv,Int.natCast_add,Int.natCast_add];rfl,rfl⟩
theorem aaC (n:Nat) (h:n<4294967296):n/2147483648=if n.testBit 31 then 1 else 0:=by
 have e:n.testBit 31=decide (2147483648≤n):=by
  rw [Nat.testBit_eq_decide_div_mod_eq];have h2:n/2^31<2:=by rw [Nat.div_lt_iff_lt_mul (by decide)];exact h
  rw [Nat.mod_eq_of_lt h2,Bool.eq_iff_iff,decide_eq_true_iff,decide_eq_true_iff];simp only [Nat.reducePow];constructor<;>intro g<;>omega
 rw [e];by_cases hn:2147483648≤n
 · rw [decide_eq_true hn,if_pos rfl];omega
 · rw [decide_eq_false hn,if_neg (by decide)];omega
theorem Pp (n:Nat) (h:n<4294967296):n.testBit 31=decide (2147483648≤n):=by
 rw [Nat.testBit_eq_decide_div_mod_eq];have h2:n/2^31<2:=by rw [Nat.div_lt_iff_lt_mul (by decide)];exact h
 rw [Nat.mod_eq_of_lt h2,Bool.eq_iff_iff,decide_eq_true_iff,decide_eq_true_iff];simp only [Nat.reducePow];constructor<;>intro g<;>omega
theorem Pq (x y c:Nat) (hx:x<4294967296) (hy:y<4294967296) (hc:c≤1) :(((4294967295^^^x)&&&y)|||((4294967295^^^(x^^^y))&&&qJ x y c))/2147483648=vJ x y c:=by
 have hd:=vK x y c;have hs:=BJ x y c hx hy hc;have p32:(4294967296:Nat)=2^32:=rfl;have b1:((4294967295^^^x)&&&y)<4294967296:=Nat.lt_of_le_of_lt Nat.and_le_right hy;have b2:((4294967295^^^(x^^^y))&&&qJ x y c)<4294967296:=Nat.lt_of_le_of_lt Nat.and_le_right hd;have b3:(((4294967295^^^x)&&&y)|||((4294967295^^^(x^^^y))&&&qJ x y c))<4294967296:=by rw [p32] at b1 b2 ⊢;exact Nat.or_lt_two_pow b1 b2
 rw [aaC _ b3];have hc2:=BI x y c;have t:(4294967295:Nat).testBit 31=true:=by decide
 rw [Nat.testBit_or,Nat.testBit_and,Nat.testBit_and,Nat.testBit_xor,Nat.testBit_xor,Nat.testBit_xor,t,Pp x hx,Pp y hy,Pp _ hd];generalize qJ x y c=d at *
 have hC:vJ x y c=0∧y+c≤x∨vJ x y c=1∧x<y+c:=by
  unfold vJ;split
  · right;omega
  · left;omega
 generalize vJ x y c=f at *;by_cases g1:2147483648≤x<;>by_cases g2:2147483648≤y<;>by_cases g3:2147483648≤d<;>simp [g1,g2,g3]<;>omega
theorem NF (x y c:Nat) (hx:x<4294967296) (hy:y<4294967296) (hc:c≤1):(((x:Nat):Int)-(y:Nat)-(c:Nat))%4294967296=((qJ x y c:Nat):Int):=by have hs:=BJ x y c hx hy hc;have hd:=vK x y c;have hc2:=BI x y c;generalize qJ x y c=d at *;generalize vJ x y c=f at *;omega
theorem NG (x y c:Nat) (hx:x<4294967296) (hy:y<4294967296) (hc:c≤1) :bits .or .u32 (bits .and .u32 (bits .xor .u32 IntKind.u32.max ((x:Nat):Int)) ((y:Nat):Int)) (bits .and .u32 (bits .xor .u32 IntKind.u32.max (bits .xor .u32 ((x:Nat):Int) ((y:Nat):Int))) ((((x:Nat):Int)-(y:Nat)-(c:Nat))%4294967296))/2147483648=((vJ x y c:Nat):Int):=by
 have hd:=vK x y c;have p32:(4294967296:Nat)=2^32:=rfl;have b0:(x^^^y)<4294967296:=by rw [p32] at hx hy ⊢;exact Nat.xor_lt_two_pow hx hy
 have b4:(4294967295^^^x)<4294967296:=by rw [p32] at hx ⊢;exact Nat.xor_lt_two_pow (by decide) hx
 have b5:(4294967295^^^(x^^^y))<4294967296:=by rw [p32] at b0 ⊢;exact Nat.xor_lt_two_pow (by decide) b0
 have b1:((4294967295^^^x)&&&y)<4294967296:=Nat.lt_of_le_of_lt Nat.and_le_right hy;have b2:((4294967295^^^(x^^^y))&&&qJ x y c)<4294967296:=Nat.lt_of_le_of_lt Nat.and_le_right hd;have em:IntKind.u32.max=((4294967295:Nat):Int):=by decide
 rw [NF x y c hx hy hc,em,u32_xor_nat _ _ (by decide) hx,u32_and_nat _ _ b4 hy,u32_xor_nat _ _ hx hy,u32_xor_nat _ _ (by decide) b0,u32_and_nat _ _ b5 hd,u32_or_nat _ _ b1 b2,← Pq x y c hx hy hc,Int.natCast_ediv];rfl
theorem DI (w:World) (x y c:Nat) (hx:x<4294967296) (hy:y<4294967296) (hc:c≤1) :Calls prog 184 #[.int .u32 x,.int .u32 y,.int .u32 c] w fun e w'=>e = .returned (.tuple #[.int .u32 (qJ x y c:Nat),.int .u32 (vJ x y c:Nat)])∧w=w':=by have H1:=Lib.hid (NF x y c hx hy hc);have H2:=Lib.hid (NG x y c hx hy hc);clear hx hy hc;go_enter func184,ntmps184;go_wp2;go_ret2;exact ⟨by rw [← H1.out,← H2.out];rfl,rfl⟩
theorem qK (w:World) (x y c b:Nat) (hx:x<4294967296) (hy:y<4294967296) (hc:c≤1) (hcell:w.cell? ⟨b,0,none⟩=some (.int .u32 c)) (hf:w.frozen? ⟨b,0,none⟩=false) :Calls prog 147 #[.int .u32 x,.int .u32 y,A0a b] w fun e w'=>e = .returned (.int .u32 ((x+y+c)%4294967296:Nat))∧w'=w.setCell ⟨b,0,none⟩ (.int .u32 ((x+y+c)/4294967296:Nat)):=by have H1:=Lib.hid hx;have H2:=Lib.hid hy;have H3:=Lib.hid hc;clear hx hy hc;go_enter func147,ntmps147;go_wp2_with (go_at_call 148;refine (NE _ x y c H1.out H2.out H3.out).mono ?_;rintro e w' ⟨rfl,rfl⟩);go_ret;exact ⟨by rw [Int.natCast_emod,Int.natCast_add,Int.natCast_add];rfl,by rw [Int.natCast_ediv,Int.natCast_add,Int.natCast_add];rfl⟩
theorem KT (w:World) (x y c b:Nat) (hx:x<4294967296) (hy:y<4294967296) (hc:c≤1) (hcell:w.cell? ⟨b,0,none⟩=some (.int .u32 c)) (hf:w.frozen? ⟨b,0,none⟩=false) :Calls prog 183 #[.int .u32 x,.int .u32 y,A0a b] w fun e w'=>e = .returned (.int .u32 (qJ x y c:Nat))∧w'=w.setCell ⟨b,0,none⟩ (.int .u32 (vJ x y c:Nat)):=by have H1:=Lib.hid hx;have H2:=Lib.hid hy;have H3:=Lib.hid hc;clear hx hy hc;go_enter func183,ntmps183;go_wp2_with (go_at_call 184;refine (DI _ x y c H1.out H2.out H3.out).mono ?_;rintro e w' ⟨rfl,rfl⟩);go_ret;exact ⟨rfl,rfl⟩
theorem DU (w:World):Calls prog 124 #[] w fun e w'=>e = .returned (.func (.func 147) #[] #[A0a w.heap.size])∧w'=w.alloc (.cells #[.int .u32 0] 57):=by go_enter func124,ntmps124;go_wp2;go_ret;exact ⟨rfl,rfl⟩
theorem NH (w:World):Calls prog 166 #[] w fun e w'=>e = .returned (.func (.func 183) #[] #[A0a w.heap.size])∧w'=w.alloc (.cells #[.int .u32 0] 57):=by go_enter func166,ntmps166;go_wp2;go_ret;exact ⟨rfl,rfl⟩
theorem yc (w:World) (a b:Option Addr) (l l' c c':Nat) :Calls prog 125 #[.slice a l c,.slice b l' c'] w fun e w'=>e = .returned (.func (.func 149) #[] #[.pointer (some ⟨w.heap.size+1,0,none⟩),A0a w.heap.size])∧w'=(w.alloc (.cells #[.slice a l c] 24)).alloc (.cells #[.slice b l' c'] 24):=by go_enter func125,ntmps125;go_wp2;go_ret;exact ⟨rfl,rfl⟩
end
open Go.Shelf
attribute [local go_sem] Oper.semAt_some
abbrev aaD (p:NC):Array Value:=#[.int .u32 (p.1.1:Int),.int .u32 (p.1.2:Int)]
def mkP {xs ys:List Nat} (hx:∀ x∈xs,x<4294967296) (hy:∀ x∈ys,x<4294967296) (j:Nat):NC:=⟨(lb xs j,lb ys j),fD hx j,fD hy j⟩
structure Pt (n₀ Ba Bb:Nat) (W W':World):Prop where
 Hz:Below n₀ W W'
 ba:W'.heap[Ba]?=W.heap[Ba]?
 bb:W'.heap[Bb]?=W.heap[Bb]?
theorem Pt.refl (n₀ Ba Bb:Nat) (W:World):Pt n₀ Ba Bb W W:=⟨Below.refl _ _,rfl,rfl⟩
theorem Pt.trans {n₀ Ba Bb:Nat} {A B C:World} (h:Pt n₀ Ba Bb A B) (k:Pt n₀ Ba Bb B C):Pt n₀ Ba Bb A C:=⟨h.Hz.trans k.Hz,k.ba.trans h.ba,k.bb.trans h.bb⟩
theorem XQ {n₀ Ba Bb:Nat} {w:World} (hn:n₀≤w.heap.size) (ha:Ba<w.heap.size) (hb:Bb<w.heap.size) (W:World) (l:Nat) (o o':Obj) (hl:w.heap.size≤l) (h:W.heap[l]?=some o) (h1:o.isCells=false) (h2:o.isWalk=false):Pt n₀ Ba Bb W (W.putObj l o'):=by have hg:=grownBy_putObj' W l o';have hlt:=(Array.getElem?_eq_some_iff.1 h).1;exact ⟨belowK_b hn W l o o' hl h h1 h2,hg.block Ba (by omega) (fun e=>by injection e with e;omega),hg.block Bb (by omega) (fun e=>by injection e with e;omega)⟩
set_option maxRecDepth 100000 in
theorem Tv (l Ba Bb:Nat) (A A2:Option Addr) (c c2:Nat) (xs ys:List Nat) (hle:ys.length≤xs.length) (n₀:Nat) (W:World) (hUa:U W (.slice A xs.length c) xs) (hUb:U W (.slice A2 ys.length c2) ys) (hba:∀ ad,A=some ad→0<xs.length→ad.block<n₀) (hbb:∀ ad,A2=some ad→0<ys.length→ad.block<n₀) (J Jx:List NC→World→Prop) (hY:∀ pre x W,J pre W→pre.length<xs.length→YieldAt Fence.wide 2 prog l (aaD x) W fun e W' => (e = .returned (.bool true)∧J (pre++[x]) W'∧Pt n₀ Ba Bb W W')∨(e = .returned (.bool false)∧Jx (pre++[x]) W')) (hca:W.cell? ⟨Ba,0,none⟩=some (.slice A xs.length c)) (hcb:W.cell? ⟨Bb,0,none⟩=some (.slice A2 ys.length c2)) (h0:J [] W) :CallsIn Fence.wide 3 prog 149 #[.func (.yield l) #[] #[],A0a Bb,A0a Ba] W fun e W'=>(∃ v,e = .returned v) ∧((∃ l,l.map (·.1)=kN xs ys xs.length∧J l W')∨(∃ pre,True∧Jx pre W')):=by
 obtain ⟨_,_,hva,⟨h1,h2⟩,hx,hr⟩:=hUa;injection hva with e1 _ e3;subst e1 e3;obtain ⟨_,_,hvb,⟨h3,h4⟩,hy,hr2⟩:=hUb;injection hvb with e1 _ e3;subst e1 e3;refine callsIn_of_wp func149 rfl trivial ?_ rfl;simp only [ntmps149,List.size_toArray,List.length_cons,List.length_nil,Nat.reduceAdd,Nat.reduceSub,Array.replicate_succ,Array.replicate_zero,List.push_toArray,List.append_toArray,List.nil_append,List.cons_append];gi_wp2
 gi_loopw [10] (fun i wr=>∃ (k:Nat) (pre:List NC),k≤ys.length∧i = .int .i64 (k:Int)∧Hid (pre.map (·.1)=kN xs ys k)∧J pre wr∧Pt n₀ Ba Bb W wr)
  (fun i _=>ys.length-(intOf i).toNat)
 case atStart=>exact ⟨0,[],Nat.zero_le _,rfl,rfl,h0,Pt.refl _ _ _ _⟩
 case round =>
  obtain ⟨k,pre,hk,rfl,hp,hJs,hnx⟩:=hrel;have agO:=(World.cell?_of_block (w:=W) (a:=⟨Ba,0,none⟩) hnx.ba).trans hca;have ajA:=(World.cell?_of_block (w:=W) (a:=⟨Bb,0,none⟩) hnx.bb).trans hcb;by_cases hlt:k<ys.length
  · obtain ⟨ad,rfl,hb,hcell⟩:=hr (by omega);obtain ⟨LW,rfl,hb2,hcell2⟩:=hr2 (by omega);have hc1:=(hnx.Hz.cell (p:=ad.add k) (by rw [aW];exact hba ad rfl (by omega))).trans (hcell k (by omega));have hc2:=(hnx.Hz.cell (p:=LW.add k) (by rw [aW];exact hbb LW rfl (by omega))).trans (hcell2 k hlt);have hpl:pre.length=k:=(by have:=congrArg List.length hp.out;simpa [kN] using this);obtain ⟨fn,tmps,assign,body,hy1,hR⟩:=hY pre (mkP hx hy k) wr hJs (by omega);dsimp only [aaD,mkP] at hy1;have HP:=Lib.hid hpl;have hkx:((k:Nat):Int)<xs.length:=(by omega);clear hpl;gi_wp2;refine hR.mono ?_;rintro e W3 (⟨rfl,hJ3,hk3⟩ | ⟨rfl,hJx3⟩)
    · gi_wp2;go_roundw;case rel=>exact ⟨k+1,_,by omega,by go_num,by rw [Hid,List.map_append,hp.out,xZ];rfl,hJ3,hnx.trans hk3⟩
      case measure=>simp [intOf];omega
    · gi_wp2;exact bodyPost_ret (results_none rfl _ _ _) rfl<|⟨⟨_,rfl⟩,.inr ⟨_,trivial,hJx3⟩⟩
  · obtain rfl:k=ys.length:=(by omega);rcases Nat.lt_or_ge ys.length xs.length with hl2 | hl2
    · obtain ⟨ad,rfl,hb,hcell⟩:=hr (by omega);have ah5:¬ c=ys.length:=(by omega);gi_wp2
      gi_loopw [29] (fun i wr=>∃ (k:Nat) (pre:List NC),k≤xs.length-ys.length∧i = .int .i64 (k:Int)∧Hid (pre.map (·.1)=kN xs ys (ys.length+k))∧J pre wr∧Pt n₀ Ba Bb W wr)
       (fun i _=>xs.length-ys.length-(intOf i).toNat)
      case atStart=>exact ⟨0,pre,Nat.zero_le _,rfl,hp,hJs,hnx⟩
      case round =>
       clear hp hJs hnx agO ajA pre;obtain ⟨k,pre,hk,rfl,hp,hJs,hnx⟩:=hrel;by_cases hlt:k<xs.length-ys.length
       · have hc1:wr.cell? ((ad.add ys.length).add k)=some (.int .u32 ((lb xs (ys.length+k):Nat):Int)):=(by rw [addr_add_add];exact (hnx.Hz.cell (p:=ad.add (ys.length+k)) (by rw [aW];exact hba ad rfl (by omega))).trans (hcell _ (by omega)));have hpl:pre.length=ys.length+k:=(by have:=congrArg List.length hp.out;simpa [kN] using this);obtain ⟨fn,tmps,assign,body,hy1,hR⟩:=hY pre (mkP hx hy (ys.length+k)) wr hJs (by omega);dsimp only [aaD,mkP] at hy1;rw [qV (show ys.length≤ys.length+k by omega),show (((0:Nat)):Int)=0 from rfl] at hy1;have HP:=Lib.hid hpl;clear hpl;by_cases hk0:k=0
         · subst hk0;rw [lF,Nat.add_zero] at hc1;rw [Nat.add_zero] at hy1;gi_wp2;refine hR.mono ?_;rintro e W3 (⟨rfl,hJ3,hk3⟩ | ⟨rfl,hJx3⟩)
           · gi_wp2;go_roundw;case rel=>exact ⟨1,_,by omega,by go_num,by rw [Hid,List.map_append,hp.out,xZ];rfl,hJ3,hnx.trans hk3⟩
             case measure=>simp [intOf];omega
           · gi_wp2;exact bodyPost_ret (results_none rfl _ _ _) rfl<|⟨⟨_,rfl⟩,.inr ⟨_,trivial,hJx3⟩⟩
         · gi_wp2;refine hR.mono ?_;rintro e W3 (⟨rfl,hJ3,hk3⟩ | ⟨rfl,hJx3⟩)
           · gi_wp2;go_roundw;case rel=>exact ⟨k+1,_,by omega,by go_num,by rw [Hid,List.map_append,hp.out,← Nat.add_assoc,xZ];rfl,hJ3,hnx.trans hk3⟩
             case measure=>simp [intOf];omega
           · gi_wp2;exact bodyPost_ret (results_none rfl _ _ _) rfl<|⟨⟨_,rfl⟩,.inr ⟨_,trivial,hJx3⟩⟩
       · have HP:Hid (pre.map (·.1)=kN xs ys xs.length):=(by rw [Hid,hp.out,show ys.length+k=xs.length by omega]);gi_wp2;go_end0;exact ⟨⟨_,rfl⟩,.inl ⟨_,HP.out,hJs⟩⟩
    · have HP:Hid (pre.map (·.1)=kN xs ys xs.length):=(by rw [Hid,hp.out,show ys.length=xs.length by omega]);have hz:xs.length-ys.length=0:=(by omega);have hxy:xs.length=ys.length:=(by omega);have HJ:=Lib.hid hJs;clear hJs hp;rw [hxy] at agO;clear hxy hz;gi_wp2
      all_goals
       gi_loopw [29] (fun i wr=>i = .int .i64 0∧J pre wr) (fun _ _=>0);case atStart=>exact ⟨rfl,HJ.out⟩
       case round =>obtain ⟨rfl,hJs⟩:=hrel;gi_wp2;go_end0;exact ⟨⟨_,rfl⟩,.inl ⟨_,HP.out,hJs⟩⟩
theorem yf (Ba Bb:Nat) (v u:Value) (xs ys:List Nat) (w0 w:World) (hB:Below w0.heap.size w0 w) (hle:ys.length≤xs.length) (hBa:Ba<w.heap.size) (hBb:Bb<w.heap.size) (hca:Boxed w Ba 24 v) (hcb:Boxed w Bb 24 u) (hU:U w0 v xs) (hV:U w0 u ys) :SeqStopsK Fence.wide 3 prog 149 #[A0a Bb,A0a Ba] aaD (Pt w0.heap.size Ba Bb) (fun l=>l.map (·.1)=kN xs ys xs.length) (fun pre=>True) xs.length w:=fun l J Jx W hW _ _ hY h0=>by
 obtain ⟨A,c,rfl,h1,hx,hr⟩:=id hU;obtain ⟨A2,c2,rfl,h2,hy,hr2⟩:=id hV;have hW':=hB.trans (hW.mono hB.size)
 exact Tv l Ba Bb A A2 c c2 xs ys hle w0.heap.size W (hU.below hW') (hV.below hW')
  (fun ad e h0=>by obtain ⟨ahc,e',hb,_⟩:=hr h0;rw [e] at e';injection e' with e';subst e';exact hb)
  (fun ad e h0=>by obtain ⟨ahc,e',hb,_⟩:=hr2 h0;rw [e] at e';injection e' with e';subst e';exact hb) J Jx hY
  ((hW.cell (p:=⟨Ba,0,none⟩) hBa).trans hca.cell) ((hW.cell (p:=⟨Bb,0,none⟩) hBb).trans hcb.cell) h0
