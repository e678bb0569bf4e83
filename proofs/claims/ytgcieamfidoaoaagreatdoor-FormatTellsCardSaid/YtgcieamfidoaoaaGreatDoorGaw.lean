/- Base. -/
import Derived.Test.YtgcieamfidoaoaaGreatDoorGav
set_option linter.all false
set_option maxHeartbeats 8000000
namespace Go.Proofs.YtgcieamfidoaoaaGreatDoor
open Pl Go.Proofs.Tryz
open Go.RowKit
theorem Wj {x y:Operand} {a b:Int} {v:Bool} (h:decide (b≤a)=v) (X:World):(do eqGuard .geq 3 x y (.int .i64 a) (.int .i64 b);binOp .geq 3 (.int .i64 a) (.int .i64 b):Sem Value).run prog X = .ok (.bool v) X:=by subst h;go_simp
theorem Wd (a b:Int):Int.sign (a-b)=dA a b:=by
 unfold dA;rcases Int.lt_trichotomy a b with h | h | h
 · rw [Int.sign_eq_neg_one_of_neg (by omega)];simp [h]
 · subst h;simp
 · rw [Int.sign_eq_one_of_pos (by omega)];simp [show ¬ a<b by omega,h]
theorem Bu {x y:Operand} {a b:Int} {v:Bool} (h:decide (b<a)=v) (X:World):(do eqGuard .gtr 3 x y (.int .i64 a) (.int .i64 b);binOp .gtr 3 (.int .i64 a) (.int .i64 b):Sem Value).run prog X = .ok (.bool v) X:=by subst h;go_simp
section
variable {L:List Oper} {S:World→Prop} {K:List (Nat × Value)→World→Prop} {k:Bool} {i m d:Nat} {o:Oper} {x:Operand} {r:List (Bool × Nat × Nat)} {l:List (Nat × Value)} {w:World}
theorem fM {T:TypeId} {j:Nat} {p v:Value} (hS:S w) (ho:Pl.nth L i=some o) (hop:o.op = .fieldAddr T x j) (hd:o.dst=some d) (hg:Pl.gd L l o.guard=some true) (hx:fO l x=some p) (hr:∀ X,(Instr.fieldAt T p j).run prog X = .ok v X) (h:iP prog L S K r ((d,v)::l) w):iP prog L S K ((k,i,m)::r) l w :=
 jS hS ho hd hg (fun ρ hρ X _=>by unfold execOp;rw [hop];exact fI _ X (by rw [hρ.fO hx];exact hr X)) h
theorem jU {A:Option Addr} {n c:Nat} (hS:S w) (ho:Pl.nth L i=some o) (hop:o.op = .call { callee:=.builtin .len,args:=#[x],argTypes:=#[24] }) (hd:o.dst=some d) (hg:Pl.gd L l o.guard=some true) (hx:fO l x=some (.slice A n c)) (h:iP prog L S K r ((d,.int .i64 (n:Int))::l) w):iP prog L S K ((k,i,m)::r) l w :=
 jS hS ho hd hg (fun ρ hρ X _=>by
  obtain ⟨d',op',t',ps',ahM,gu'⟩:=o;cases hop;have e:=hρ.fO hx;simp [go_sem,e]) h
end
theorem Sz.div {a b:Int} {K:Nat} (h:Sz a K):Sz (a/b) K:=by refine lQ (show _<4294967296^K from Nat.lt_of_le_of_lt (Int.natAbs_ediv_le_natAbs a b) (I7 h))
theorem Sz.mod {a b:Int} {K:Nat} (h:Sz b K) (h0:b≠0):Sz (a%b) K:=by refine lQ (show _<4294967296^K from Nat.lt_of_le_of_lt ?_ (I7 h));have h1:=Int.emod_nonneg a h0;have h2:=Int.emod_lt a h0;omega
theorem yQ {x y:Operand} {a b:Int} {v:Bool} (h:decide (a<b)=v) (X:World):(do eqGuard .lss 3 x y (.int .i64 a) (.int .i64 b);binOp .lss 3 (.int .i64 a) (.int .i64 b):Sem Value).run prog X = .ok (.bool v) X:=by subst h;go_simp
section
variable {x y:Operand} {X:World}
theorem Gs {a b c:Int} (h:a+b=c) (h1 : -1000000000≤c) (h2:c≤1000000000) (X:World):(do eqGuard .add 3 x y (.int .i64 a) (.int .i64 b);binOp .add 3 (.int .i64 a) (.int .i64 b):Sem Value).run prog X = .ok (.int .i64 c) X:=by have:IntKind.i64.wrap c=c:=IntWalk.i64_in _ (by omega);go_simp
theorem I8 {a b c:Int} (h:a-b=c) (h1 : -1000000000≤c) (h2:c≤1000000000) (X:World):(do eqGuard .sub 3 x y (.int .i64 a) (.int .i64 b);binOp .sub 3 (.int .i64 a) (.int .i64 b):Sem Value).run prog X = .ok (.int .i64 c) X:=by have:IntKind.i64.wrap c=c:=IntWalk.i64_in _ (by omega);go_simp
section
variable {L:List Oper} {S:World→Prop} {K:List (Nat × Value)→World→Prop} {k:Bool} {i m d:Nat} {o:Oper} {r:List (Bool × Nat × Nat)} {l:List (Nat × Value)} {w:World}
theorem pE {s t:TypeId} {u v:Value} (hS:S w) (ho:Pl.nth L i=some o) (hop:o.op = .convert s t x) (hd:o.dst=some d) (hg:Pl.gd L l o.guard=some true) (hx:fO l x=some u) (hr:∀ X,(convert s t u).run prog X = .ok v X) (h:iP prog L S K r ((d,v)::l) w):iP prog L S K ((k,i,m)::r) l w :=
 jS hS ho hd hg (fun ρ hρ X _=>by unfold execOp;rw [hop];exact fI _ X (by rw [hρ.fO hx];exact hr X)) h
end
end
theorem abX (o:List Nat) (k:Nat) (hx:∀ x∈o,x<4294967296):lb o k=val o/4294967296^k%4294967296:=by
 rw [← Lm o k hx];rcases Nat.lt_or_ge k o.length with h | h
 · rw [sU o k h,Nat.add_mul_mod_self_left,Nat.mod_eq_of_lt (fD hx k)]
 · rw [qV h,List.drop_eq_nil_of_le h];rfl
structure Jw (a b La j:Nat) (o:List Nat):Prop where
 len:o.length=La
 lt:∀ x∈o,x<4294967296
 val:val o=a/2^j/b*2^j
theorem PY (a j:Nat):a/2^j=2*(a/2^(j+1))+a/2^j%2:=by rw [Nat.pow_succ,← Nat.div_div_eq_div_mul];exact (Nat.div_add_mod _ _).symm
theorem Jw.none {a b La j:Nat} {o:List Nat} (h:Jw a b La (j+1) o) (bit r:Nat) (hb:a/2^j%2=bit) (hr:a/2^(j+1)%b=r) (hlt:2*r+bit<b):Jw a b La j o∧a/2^j%b=2*r+bit:=by have h1:=PY a j;rw [hb] at h1;obtain ⟨h2,h3⟩:=abM (a/2^(j+1)) b bit _ r rfl hr hlt;refine ⟨⟨h.len,h.lt,?_⟩,by rw [h1];exact h3⟩;rw [h.val,h1,h2,Nat.pow_succ,Nat.mul_comm (2^j) 2,← Nat.mul_assoc,Nat.mul_comm _ 2]
theorem Jw.more {a b La j:Nat} {o:List Nat} (h:Jw a b La (j+1) o) (hb0:0<b) (bit r k s P x:Nat) (hb:a/2^j%2=bit) (hr:a/2^(j+1)%b=r) (hge:b≤2*r+bit) (hk:j/32=k) (hs:j%32=s) (hP:2^s=P) (hx:lb o k=x) (hkl:k<La) :x+P<4294967296∧Jw a b La j (o.set k (x+P))∧a/2^j%b=2*r+bit-b:=by
 have h1:=PY a j;rw [hb] at h1;have hbit:bit≤1:=by omega
 obtain ⟨h2,h3⟩:=Yn (a/2^(j+1)) b bit _ r hb0 hbit rfl hr hge;have hjs:j+1=32*k+(s+1):=by omega
 have ahJ:s<32:=by omega
 have h4:=abX o k h.lt;rw [h.val,hx,hjs,Nat.pow_add,Jv,Nat.mul_comm (2^(32*k)),← Nat.mul_assoc,Nat.mul_div_cancel _ (Nat.two_pow_pos _)] at h4
 have h5:x+P<4294967296:=by
  obtain ⟨d,hd⟩:∃ d,32=s+1+d:=⟨31-s,by omega⟩;have e1:(4294967296:Nat)=2^(s+1)*2^d:=by rw [← Nat.pow_add,← hd]
  generalize a/(2^(s+1)*2^(32*k))/b=Q at h4;rw [e1,Nat.mul_comm Q,Nat.mul_mod_mul_left] at h4;have e2:Q%2^d<2^d:=Nat.mod_lt _ (Nat.two_pow_pos _);have e3:2^(s+1)*(Q%2^d+1)≤2^(s+1)*2^d:=Nat.mul_le_mul_left _ e2;have e4:2^(s+1)=P*2:=by rw [Nat.pow_succ,hP]
  have e5:0<P:=by rw [← hP];exact Nat.two_pow_pos _
  rw [Nat.mul_add,Nat.mul_one] at e3;omega
 refine ⟨h5,⟨by simp [h.len],ko h.lt h5,?_⟩,by rw [h1];exact h3⟩;have h6:=uO o k (x+P) (by rw [h.len];exact hkl);rw [hx,h.val,Nat.add_mul] at h6;have h7:P*4294967296^k=2^j:=by rw [← hP,Jv,← Nat.pow_add];congr 1;omega
 rw [h7] at h6;have h8:a/2^j/b*2^j=a/2^(j+1)/b*2^(j+1)+2^j:=by rw [h1,h2,Nat.add_mul,Nat.one_mul,Nat.pow_succ,Nat.mul_comm (2^j) 2,← Nat.mul_assoc,Nat.mul_comm _ 2]
 rw [h8];omega
set_option maxRecDepth 100000
attribute [local go_sem ↓] pI
attribute [local go_sem] je
def yZ (b:Nat) (v:Value):Prop:=∀ (ad:Addr) (n c:Nat),v = .slice (some ad) n c→b≤ad.block
theorem yZ.mono {b b':Nat} {v:Value} (h:yZ b v) (hb:b'≤b):yZ b' v:=fun ad n c e=>Nat.le_trans hb (h ad n c e)
theorem yZ.zZ (b n c:Nat):yZ b (.slice none n c):=fun ad n c e=>by cases e
theorem Own.fr {w:World} {base:Nat} {v:Value} {o:List Nat} (h:Own w base v o):yZ base v:=by
 rcases h.2 with hn | ⟨g,cap,cur,rfl,hb,_⟩
 · intro ad n c e;grind
 · intro ad n c e;grind
theorem U.apart {w w':World} {B b:Nat} {v:Value} {xs:List Nat} (h:U w v xs) (hf:yZ b v) (hB:B<b) (hb:But B w w'):U w' v xs:=by obtain ⟨A,c,rfl,hc,hx,hr⟩:=h;refine ⟨A,c,rfl,hc,hx,fun h0=>?_⟩;obtain ⟨ad,hA,hbk,hcell⟩:=hr h0;subst hA;have:=hf ad _ _ rfl;exact ⟨ad,rfl,by have:=hb.size;omega,fun j hj=>(hb.cell (by rw [aW];exact hbk) (by rw [aW];omega)).trans (hcell j hj)⟩
theorem uQ (w:World) (v:Value) (xs:List Nat) (h:U w v xs) (hlen:xs.length≤1000000000) :Calls prog 100 #[v] w fun e w'=>(∃ u,e = .returned u∧U w' u (limbs (val xs))∧yZ w.heap.size u)∧Below w.heap.size w w':=by
 have h':=h;obtain ⟨A,c,rfl,⟨hc,hm⟩,hx,hr⟩:=h;go_enter func100,ntmps100;go_wp2;go_loop [3] (fun n=>∃ k:Nat,k≤xs.length∧n = .int .i64 k∧Hid (∀ j,k≤j→j<xs.length→lb xs j=0)) (fun n=>(intOf n).toNat);case atStart=>exact ⟨xs.length,Nat.le_refl _,rfl,fun j h1 h2=>by omega⟩
 case round =>
  obtain ⟨k,hk,rfl,hz⟩:=hrel;have hfin:(0<k→lb xs (k-1)≠0)→∃ v' w',(Builtin.append_ #[24,24] 24 #[.slice (some ⟨w.heap.size,0,none⟩) 0 0,.slice A k c]).run prog (w.alloc (.cells #[] 57)) = .ok v' w'∧(U w' v' (limbs (val xs))∧yZ w.heap.size v')∧Below w.heap.size w w':=fun h2=>by have hB:Below w.heap.size w (w.alloc (.cells #[] 57)):=(Below.refl _ _).alloc (Nat.le_refl _) _;have hown:Own (w.alloc (.cells #[] 57)) w.heap.size (.slice (some ⟨w.heap.size,0,none⟩) 0 0) []:=World.ownsRow_lit w #[] 0 (Nat.le_refl _) (Nat.zero_le _) rfl;have hu:U w (.slice A k c) (xs.take k):=h'.take hk (by omega);have htl:(xs.take k).length=k:=(by simp;omega);obtain ⟨v',w',hrun,ho,hg⟩:=uR _ w.heap.size _ [] hown _ _ (hu.below hB) (by rw [htl];simp;omega) hB.size;refine ⟨v',w',hrun,?_,hB.grown hg hB.size (fun j e=>by cases e;exact Nat.le_refl _)⟩;refine ⟨?_,ho.fr⟩;rw [wF xs k hx hk hz.out h2];rw [List.nil_append] at ho;exact ho.Ht (fun x hx'=>hx x (List.mem_of_mem_take hx')) (by rw [htl];omega)
  rcases Nat.eq_zero_or_pos k with rfl | h0
  · obtain ⟨v',w',hrun,HU,HB⟩:=hfin (fun h=>absurd h (by omega));obtain ⟨t1,t2,t3⟩:=jW hrun;clear hfin hrun;go_wp2;go_ret;exact ⟨⟨_,rfl,HU⟩,HB⟩
  · obtain ⟨ad,rfl,hb,hcell⟩:=hr (by omega);have hc1:=hcell (k-1) (by omega);by_cases hx0:lb xs (k-1)=0
    · have ht:((((lb xs (k-1):Nat)):Int)==0)=true:=(by rw [hx0];rfl);have HX:=Lib.hid hx0;clear hx0 hfin;go_wp2;go_round
      case rel=>exact ⟨k-1,by omega,by go_num,fun j h1 h2=>by
       rcases Nat.lt_or_ge j k with h3 | h3
       · have:j=k-1:=(by omega);subst this;exact HX.out
       · exact hz.out j h3 h2⟩
      case measure=>simp [intOf];omega
    · have ht:((((lb xs (k-1):Nat)):Int)==0)=false:=(by rw [beq_eq_false_iff_ne];omega);obtain ⟨v',w',hrun,HU,HB⟩:=hfin (fun _=>hx0);obtain ⟨t1,t2,t3⟩:=jW hrun;clear hfin hrun hx0;go_wp2;go_ret;exact ⟨⟨_,rfl,HU⟩,HB⟩
set_option maxRecDepth 100000 in
theorem Lu (w:World) (v u:Value) (xs ys:List Nat) (h:U w v xs) (g:U w u ys) (hl:xs.length≤100000000) (hl2:ys.length≤100000000) :Calls prog 77 #[v,u] w fun e w'=>(∃ z,e = .returned z∧U w' z (limbs (val xs+val ys))∧yZ w.heap.size z)∧Below w.heap.size w w':=by
 obtain ⟨A,c,rfl,⟨hc,hm⟩,hx,hr⟩:=id h;obtain ⟨A2,c2,rfl,⟨hc2,hm2⟩,hx2,hr2⟩:=id g;clear hr hr2;go_enter func77,ntmps77;go_wp2_with (fail);have hown0:Own (w.alloc (.cells #[] 57)) w.heap.size (.slice (some ⟨w.heap.size,0,none⟩) 0 0) []:=World.ownsRow_lit w #[] 0 (Nat.le_refl _) (Nat.zero_le _) rfl;have hB0:Below w.heap.size w (w.alloc (.cells #[] 57)):=(Below.refl _ _).alloc (Nat.le_refl _) _;go_loopw [5,6,7] (fun s cv i wr=>∃ (k cy:Nat) (o:List Nat),k≤max xs.length ys.length+1∧i = .int .i64 k∧cv = .int .u64 cy∧Hid (y5 xs ys k o cy)∧Own wr w.heap.size s o∧Below w.heap.size w wr) (fun _ _ i _=>max xs.length ys.length+2-(intOf i).toNat);case atStart=>exact ⟨0,0,[],Nat.zero_le _,rfl,rfl,y5.start xs ys,hown0,hB0⟩
 case round =>
  clear hown0 hB0;obtain ⟨k,cy,o,hk,rfl,rfl,HO,hown,hB⟩:=hrel;by_cases hd1:k≤xs.length
  · have h1:=fD hx k;have h2:=fD hx2 k;have h3:=HO.out.carry;have hlen:=HO.out.len;obtain ⟨x1,hx1⟩:∃ x1,(lb xs k+lb ys k+cy)%4294967296=x1:=⟨_,rfl⟩;obtain ⟨c1,hc1⟩:∃ c1,(lb xs k+lb ys k+cy)/4294967296=c1:=⟨_,rfl⟩;have RF:Hid (y5 xs ys (k+1) (o++[x1]) c1):=(by rw [Hid,← hx1,← hc1];exact HO.out.step hx hx2);obtain ⟨v',w',hrun,hown',hB'⟩:=nu hB hown ((((lb xs k:Nat):Int)+((lb ys k:Nat):Int)+(cy:Int))%4294967296) x1 (by rw [← hx1];omega) (by rw [← hx1];exact Nat.mod_lt _ (by decide)) (by omega);obtain ⟨t1,t2,t3⟩:=jW hrun;have hk2:k+1≤max xs.length ys.length+1:=(by omega);have RG:Hid ((((lb xs k:Nat):Int)+((lb ys k:Nat):Int)+(cy:Int))/4294967296=(c1:Int)):=(by rw [Hid,← hc1];omega);clear hrun hx1 hc1 hlen;go_wp2_with (fail);refine (eZ _ _ xs _ k rfl (h.below hB)).mono ?_;rintro e w' ⟨rfl,rfl⟩;go_wp2_with (fail);refine (eZ _ _ ys _ k rfl (g.below hB)).mono ?_;rintro e w' ⟨rfl,rfl⟩;go_wp2_with (fail);go_roundw;case rel=>exact ⟨k+1,c1,_,hk2,by go_num,by rw [RG.out],RF,hown',hB'⟩
    case measure=>simp [intOf];omega
  · by_cases hd2:k≤ys.length
    · have h1:=fD hx k;have h2:=fD hx2 k;have h3:=HO.out.carry;have hlen:=HO.out.len;obtain ⟨x1,hx1⟩:∃ x1,(lb xs k+lb ys k+cy)%4294967296=x1:=⟨_,rfl⟩;obtain ⟨c1,hc1⟩:∃ c1,(lb xs k+lb ys k+cy)/4294967296=c1:=⟨_,rfl⟩;have RF:Hid (y5 xs ys (k+1) (o++[x1]) c1):=(by rw [Hid,← hx1,← hc1];exact HO.out.step hx hx2);obtain ⟨v',w',hrun,hown',hB'⟩:=nu hB hown ((((lb xs k:Nat):Int)+((lb ys k:Nat):Int)+(cy:Int))%4294967296) x1 (by rw [← hx1];omega) (by rw [← hx1];exact Nat.mod_lt _ (by decide)) (by omega);obtain ⟨t1,t2,t3⟩:=jW hrun;have hk2:k+1≤max xs.length ys.length+1:=(by omega);have RG:Hid ((((lb xs k:Nat):Int)+((lb ys k:Nat):Int)+(cy:Int))/4294967296=(c1:Int)):=(by rw [Hid,← hc1];omega);clear hrun hx1 hc1 hlen;go_wp2_with (fail);refine (eZ _ _ xs _ k rfl (h.below hB)).mono ?_;rintro e w' ⟨rfl,rfl⟩;go_wp2_with (fail);refine (eZ _ _ ys _ k rfl (g.below hB)).mono ?_;rintro e w' ⟨rfl,rfl⟩;go_wp2_with (fail);go_roundw;case rel=>exact ⟨k+1,c1,_,hk2,by go_num,by rw [RG.out],RF,hown',hB'⟩
      case measure=>simp [intOf];omega
    · have hlen:=HO.out.len;obtain ⟨j,rfl⟩:∃ j,k=j+1:=⟨k-1,by omega⟩;have HV:Hid (val o=val xs+val ys):=HO.out.done hx hx2 (by omega) (by omega);have hu:=hown.Ht HO.out.lt (by omega);have hol:o.length≤1000000000:=(by omega);clear hlen;go_wp2_with (fail);refine (uQ _ _ _ hu hol).mono ?_;rintro e w' ⟨⟨z,rfl,hz,hf⟩,hB2⟩;have hf2:Hid (yZ w.heap.size z):=hf.mono hB.size;clear hf;rw [HV.out] at hz;replace hB:=Below.trans hB (Below.mono hB2 hB.size);go_wp2;go_ret;exact ⟨⟨_,rfl,hz,hf2.out⟩,hB⟩
set_option maxRecDepth 100000 in
theorem Lv (w:World) (v u:Value) (n m:Nat) (h:Un w v n) (g:Un w u m) (hl:(limbs n).length≤100000000) (hl2:(limbs m).length≤100000000) (b:Bool) (hb:decide (m≤n)=b) (d:Nat) (hd:n-m=d) :Calls prog 85 #[v,u] w fun e w'=>(∃ z,e = .returned (.tuple #[z,.bool b])∧Un w' z d∧yZ w.heap.size z)∧Below w.heap.size w w':=by
 obtain ⟨A,c,rfl,⟨hc,hm⟩,hx,hr⟩:=id h;obtain ⟨A2,c2,rfl,⟨hc2,hm2⟩,hx2,hr2⟩:=id g;clear hr hr2;rcases Nat.lt_or_ge n m with hlt | hge
 · have HF:Hid (dA (val (limbs n):Nat) (val (limbs m):Nat) = -1):=(by rw [Hid,aM,aM];exact lU (Int.ofNat_lt.2 hlt));obtain rfl:d=0:=(by omega);obtain rfl:b=false:=(by rw [← hb,decide_eq_false_iff_not];omega);clear hb hd hlt;go_enter func85,ntmps85;go_wp2_with (fail);refine (qX _ _ _ _ _ h g (by omega) (by omega)).mono ?_;rintro e w' ⟨rfl,rfl⟩;rw [HF.out];go_wp2;go_ret2;exact ⟨⟨_,rfl,Oa _,yZ.zZ _ _ _⟩,Below.refl _ _⟩
 · have HF:Hid (0≤dA (val (limbs n):Nat) (val (limbs m):Nat)):=by
    rw [Hid,aM,aM];rcases Nat.lt_or_ge m n with h1 | h1
    · rw [mF (Int.ofNat_lt.2 h1)];decide
    · obtain rfl:n=m:=(by omega);rw [qD];decide
   obtain rfl:b=true:=(by rw [← hb,decide_eq_true_iff];omega);have HD:=Lib.hid hd;have HG:=Lib.hid hge;have hll:=iK hge;clear hb hd hge;obtain ⟨K,hK⟩:∃ K,dA (val (limbs n):Nat) (val (limbs m):Nat)=K:=⟨_,rfl⟩;have hK0:0≤K:=(by rw [← hK];exact HF.out);clear HF;go_enter func85,ntmps85;go_wp2_with (fail);refine (qX _ _ _ _ _ h g (by omega) (by omega)).mono ?_;rintro e w' ⟨rfl,rfl⟩;rw [hK];clear hK;go_wp2_with (fail);have hown0:Own (w.alloc (.cells #[] 57)) w.heap.size (.slice (some ⟨w.heap.size,0,none⟩) 0 0) []:=World.ownsRow_lit w #[] 0 (Nat.le_refl _) (Nat.zero_le _) rfl;have hB0:Below w.heap.size w (w.alloc (.cells #[] 57)):=(Below.refl _ _).alloc (Nat.le_refl _) _;go_loopw [6,7,8] (fun s cv i wr=>∃ (k cy:Nat) (o:List Nat),k≤(limbs n).length∧i = .int .i64 k∧cv = .int .u64 cy∧Hid (Cf (limbs n) (limbs m) k o cy)∧Own wr w.heap.size s o∧Below w.heap.size w wr) (fun _ _ i _=>(limbs n).length-(intOf i).toNat);case atStart=>exact ⟨0,0,[],Nat.zero_le _,rfl,rfl,Cf.start _ _,hown0,hB0⟩
   case round =>
    clear hown0 hB0;obtain ⟨k,cy,o,hk,rfl,rfl,HO,hown,hB⟩:=hrel;by_cases hd1:k<(limbs n).length
    · have h1:=fD hx k;have h2:=fD hx2 k;have h3:=HO.out.carry;have hlen:=HO.out.len;obtain ⟨x1,hx1⟩:∃ x1,(4294967296+lb (limbs n) k-lb (limbs m) k-cy)%4294967296=x1:=⟨_,rfl⟩;obtain ⟨c1,hc1⟩:∃ c1,1-(4294967296+lb (limbs n) k-lb (limbs m) k-cy)/4294967296=c1:=⟨_,rfl⟩;have RF:Hid (Cf (limbs n) (limbs m) (k+1) (o++[x1]) c1):=(by rw [Hid,← hx1,← hc1];exact HO.out.step hx hx2);obtain ⟨v',w',hrun,hown',hB'⟩:=nu hB hown ((4294967296+((lb (limbs n) k:Nat):Int)-((lb (limbs m) k:Nat):Int)-(cy:Int))%4294967296) x1 (by rw [← hx1];omega) (by rw [← hx1];exact Nat.mod_lt _ (by decide)) (by omega);obtain ⟨t1,t2,t3⟩:=jW hrun;have RG:Hid (1-(4294967296+((lb (limbs n) k:Nat):Int)-((lb (limbs m) k:Nat):Int)-(cy:Int))/4294967296=(c1:Int)):=(by rw [Hid,← hc1];omega);clear hrun hx1 hc1 hlen;go_wp2_with (fail);refine (eZ _ _ (limbs n) _ k rfl (U.below h hB)).mono ?_;rintro e w' ⟨rfl,rfl⟩;go_wp2_with (fail);refine (eZ _ _ (limbs m) _ k rfl (U.below g hB)).mono ?_;rintro e w' ⟨rfl,rfl⟩;go_wp2_with (fail);go_roundw;case rel=>exact ⟨k+1,c1,_,by omega,by go_num,by rw [RG.out],RF,hown',hB'⟩
      case measure=>simp [intOf];omega
    · have hlen:=HO.out.len;obtain rfl:k=(limbs n).length:=(by omega);have HV:Hid (val o=d):=(by rw [Hid,HO.out.done hll (by rw [aM,aM];exact HG.out),aM,aM];exact HD.out);have hu:=hown.Ht HO.out.lt (by omega);have hol:o.length≤1000000000:=(by omega);clear hlen;go_wp2_with (fail);refine (uQ _ _ _ hu hol).mono ?_;rintro e w' ⟨⟨z,rfl,hz,hf⟩,hB2⟩;have hf2:Hid (yZ w.heap.size z):=hf.mono hB.size;clear hf;have hz2:Un w' z d:=(by rw [← HV.out];exact hz);replace hB:=Below.trans hB (Below.mono hB2 hB.size);clear hz;go_wp2;go_ret2;exact ⟨⟨_,rfl,hz2,hf2.out⟩,hB⟩
set_option maxRecDepth 100000 in
theorem Lx (w:World) (v:Value) (n:Nat) (k0:Nat) (hk:k0≤100000000) (h:Un w v n) (hl:(limbs n).length≤100000000) :Calls prog 132 #[v,.int .i64 (k0:Int)] w fun e w'=>(∃ u,e = .returned u∧Un w' u (n*2^k0)∧yZ w.heap.size u)∧Below w.heap.size w w':=by
 obtain ⟨A,c,rfl,⟨hc,hm⟩,hx,hr⟩:=id h;clear hr;obtain ⟨Q,hQ⟩:∃ Q,k0/32=Q:=⟨_,rfl⟩;obtain ⟨S,hS⟩:∃ S,k0%32=S:=⟨_,rfl⟩;have eQ:(k0:Int)/32=(Q:Int):=by omega
 have eS:(k0:Int)%32=(S:Int):=by omega
 have HK:Hid (k0=32*Q+S):=by rw [Hid];omega
 have amJ:S<32:=by omega
 have TF:Q≤100000000:=by omega
 go_enter func132,ntmps132;go_wp2_with (fail);have hown0:Own (w.alloc (.cells #[] 57)) w.heap.size (.slice (some ⟨w.heap.size,0,none⟩) 0 0) []:=World.ownsRow_lit w #[] 0 (Nat.le_refl _) (Nat.zero_le _) rfl;have hB0:Below w.heap.size w (w.alloc (.cells #[] 57)):=(Below.refl _ _).alloc (Nat.le_refl _) _;go_loopw [5,8] (fun s i wr=>∃ k:Nat,k≤Q∧i = .int .i64 k∧Own wr w.heap.size s (List.replicate k 0)∧Below w.heap.size w wr) (fun _ i _=>Q-(intOf i).toNat);case atStart=>exact ⟨0,Nat.zero_le _,rfl,hown0,hB0⟩
 case round =>
  clear hown0 hB0;obtain ⟨k,hk1,rfl,hown,hB⟩:=hrel;by_cases hd1:k<Q
  · obtain ⟨v',w',hrun,hown',hB'⟩:=nu hB hown 0 0 rfl (by decide) (by simp;omega);obtain ⟨t1,t2,t3⟩:=jW hrun;rw [← List.replicate_succ'] at hown';clear hrun;go_wp2;go_roundw;case rel=>exact ⟨k+1,by omega,by go_num,hown',hB'⟩
    case measure=>simp [intOf];omega
  · obtain rfl:k=Q:=(by omega);go_wp2_with (fail);go_loop [7,9] (fun b i=>∃ j:Nat,j≤S∧i = .int .i64 j∧b = .int .u64 (2^j:Nat)) (fun _ i=>S-(intOf i).toNat);case atStart=>exact ⟨0,Nat.zero_le _,rfl,rfl⟩
    case round =>
     obtain ⟨j,hj,rfl,rfl⟩:=hrel;have hp1:2^j<4294967296:=Nat.lt_of_le_of_lt (Nat.pow_le_pow_right (by decide) (show j≤31 by omega)) (by decide);by_cases hd2:j<S
     · have HN:Hid (2*((2^j:Nat):Int)=((2^(j+1):Nat):Int)):=(by rw [Hid,Nat.pow_succ];omega);obtain ⟨X,hX⟩:∃ X,2^j=X:=⟨_,rfl⟩;rw [hX] at HN hp1;rw [hX];clear hX;go_wp2;go_round;case rel=>exact ⟨j+1,by omega,by go_num,by rw [← HN.out]⟩
       case measure=>simp [intOf];omega
     · obtain rfl:j=S:=(by omega);have hp0:0<2^j:=Nat.two_pow_pos j;have HV0:Hid (n*2^k0=n*2^j*4294967296^k):=(by rw [Hid,HK.out,yM,Nat.pow_add,Nat.mul_comm (2^(32*k)),← Nat.mul_assoc]);obtain ⟨P,hP⟩:∃ P,2^j=P:=⟨_,rfl⟩;rw [hP] at hp0 hp1 HV0;rw [hP];clear hP;go_wp2_with (fail);have HO0:Hid (EH (limbs n) k P 0 (List.replicate k 0) 0):=EH.start _ _ _ hp0;go_loopw [5,6,10] (fun s cv i wr=>∃ (m cy:Nat) (o:List Nat),m≤(limbs n).length+1∧i = .int .i64 m∧cv = .int .u64 cy∧Hid (EH (limbs n) k P m o cy)∧Own wr w.heap.size s o∧Below w.heap.size w wr) (fun _ _ i _=>(limbs n).length+1-(intOf i).toNat);case atStart=>exact ⟨0,0,_,Nat.zero_le _,rfl,rfl,HO0,hown,hB⟩
       case round =>
        clear HO0 hown hB;obtain ⟨m,cy,o,hm1,rfl,rfl,HO,hown,hB⟩:=hrel;have hlen:=HO.out.len;by_cases hd3:m≤(limbs n).length
        · have h1:=fD hx m;have h3:=HO.out.carry;have h4:lb (limbs n) m*P+cy<4294967296*P:=(by have:=Nat.mul_le_mul_right P (show lb (limbs n) m+1≤4294967296 by omega);rw [Nat.add_mul] at this;omega);have e1:((lb (limbs n) m:Nat):Int)*(P:Int)=((lb (limbs n) m*P:Nat):Int):=(by rw [Int.natCast_mul]);have hm3:((lb (limbs n) m:Nat):Int)*(P:Int)+(cy:Int)<18446744073709551616:=(by rw [e1];omega);have hm4:0≤((lb (limbs n) m:Nat):Int)*(P:Int):=(by rw [e1];omega);obtain ⟨x1,hx1⟩:∃ x1,(lb (limbs n) m*P+cy)%4294967296=x1:=⟨_,rfl⟩;obtain ⟨c1,hc1⟩:∃ c1,(lb (limbs n) m*P+cy)/4294967296=c1:=⟨_,rfl⟩;have RF:Hid (EH (limbs n) k P (m+1) (o++[x1]) c1):=(by rw [Hid,← hx1,← hc1];exact HO.out.step hx);obtain ⟨v',w',hrun,hown',hB'⟩:=nu hB hown ((((lb (limbs n) m:Nat):Int)*(P:Int)+(cy:Int))%4294967296) x1 (by rw [← hx1,e1];omega) (by rw [← hx1];exact Nat.mod_lt _ (by decide)) (by omega);obtain ⟨t1,t2,t3⟩:=jW hrun;have RG:Hid ((((lb (limbs n) m:Nat):Int)*(P:Int)+(cy:Int))/4294967296=(c1:Int)):=(by rw [Hid,← hc1,e1];omega);clear hrun hx1 hc1 hlen e1 h4;go_wp2_with (fail);refine (eZ _ _ (limbs n) _ m rfl (U.below h hB)).mono ?_;rintro e w' ⟨rfl,rfl⟩;go_wp2_with (fail);go_roundw;case rel=>exact ⟨m+1,c1,_,by omega,by go_num,by rw [RG.out],RF,hown',hB'⟩
          case measure=>simp [intOf];omega
        · obtain rfl:m=(limbs n).length+1:=(by omega);have HV:Hid (val o=n*2^k0):=(by rw [Hid,HO.out.done hx (Nat.le_refl _) hp1,aM,HV0.out]);have hu:=hown.Ht HO.out.lt (by omega);have hol:o.length≤1000000000:=(by omega);clear hlen;go_wp2_with (fail);refine (uQ _ _ _ hu hol).mono ?_;rintro e w' ⟨⟨z,rfl,hz,hf⟩,hB2⟩;have hf2:Hid (yZ w.heap.size z):=hf.mono hB.size;clear hf;have hz2:Un w' z (n*2^k0):=(by rw [← HV.out];exact hz);replace hB:=Below.trans hB (Below.mono hB2 hB.size);clear hz;go_wp2;go_ret;exact ⟨⟨_,rfl,hz2,hf2.out⟩,hB⟩
theorem aaR (w:World) (v u:Value) (n m:Nat) (h:Un w v n) (g:Un w u m) (hm:(limbs n).length≤100000000) (hm2:(limbs m).length≤100000000) (s:Nat) (hs:n+m=s) :Calls prog 77 #[v,u] w fun e w'=>∃ z,e = .returned z∧Un w' z s∧yZ w.heap.size z∧Ext w w':=by subst hs;have:=Lu w v u _ _ h g hm hm2;rw [aM,aM] at this;exact this.mono fun e w' ⟨⟨z,he,hz,hf⟩,hb⟩=>⟨z,he,hz,hf,hb⟩
theorem P6 (w:World) (v u:Value) (n m:Nat) (h:Un w v n) (g:Un w u m) (hm:(limbs n).length≤100000000) (hm2:(limbs m).length≤100000000) (b:Bool) (hb:decide (m≤n)=b) (d:Nat) (hd:n-m=d) :Calls prog 85 #[v,u] w fun e w'=>∃ z,e = .returned (.tuple #[z,.bool b])∧Un w' z d∧yZ w.heap.size z∧Ext w w' :=
 (Lv w v u n m h g hm hm2 b hb d hd).mono fun e w' ⟨⟨z,he,hz,hf⟩,hb⟩=>⟨z,he,hz,hf,hb⟩
theorem P5 (w:World) (v:Value) (n:Nat) (k:Nat) (h:Un w v n) (hk1:k≤100000000) (hl:(limbs n).length≤100000000) (s:Nat) (hs:n*2^k=s) :Calls prog 132 #[v,.int .i64 (k:Int)] w fun e w'=>∃ z,e = .returned z∧Un w' z s∧yZ w.heap.size z∧Ext w w':=by subst hs;exact (Lx w v n k hk1 h hl).mono fun e w' ⟨⟨z,he,hz,hf⟩,hb⟩=>⟨z,he,hz,hf,hb⟩
