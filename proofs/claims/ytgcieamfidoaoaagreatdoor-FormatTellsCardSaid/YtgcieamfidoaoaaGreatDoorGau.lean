/- Base. -/
import Derived.Test.YtgcieamfidoaoaaGreatDoorGas
set_option linter.all false
set_option maxHeartbeats 8000000
namespace Go.Proofs.YtgcieamfidoaoaaGreatDoor
open Go.Proofs.Tryz
open Go.RowKit
attribute [local go_sem ↓] pI
attribute [local go_sem] je
def pv (xs:List Nat) (k:Nat):Nat:=val ((List.range k).map fun j=>lb xs j)
theorem aaK (xs:List Nat):pv xs 0=0:=rfl
theorem BV (xs:List Nat) (k:Nat):pv xs (k+1)=pv xs k+lb xs k*4294967296^k:=by unfold pv;rw [List.range_succ,List.map_append,val_append];simp only [List.map_cons,List.map_nil,val,Nat.mul_zero,Nat.add_zero,List.length_map,List.length_range];rw [Nat.mul_comm]
theorem Hq (xs:List Nat) (L:Nat) (h:xs.length≤L):pv xs L=val xs:=rV xs L h
theorem XZ (xs:List Nat) (k:Nat) (h:∀ x∈xs,x<4294967296):pv xs k<4294967296^k:=by have:=ru ((List.range k).map fun j=>lb xs j) (by intro x hx;obtain ⟨j,_,rfl⟩:=List.mem_map.1 hx;exact fD h j);simpa [pv] using this
theorem Hr (o:List Nat) (x:Nat):val (o++[x])=val o+x*4294967296^o.length:=by rw [val_append];simp only [val,Nat.mul_zero,Nat.add_zero];rw [Nat.mul_comm]
structure y5 (xs ys:List Nat) (k:Nat) (o:List Nat) (c:Nat):Prop where
 len:o.length=k
 lt:∀ x∈o,x<4294967296
 carry:c≤1
 val_eq:val o+c*4294967296^k=pv xs k+pv ys k
theorem y5.start (xs ys:List Nat):y5 xs ys 0 [] 0:=⟨rfl,by simp,by omega,rfl⟩
theorem y5.step {xs ys:List Nat} {k:Nat} {o:List Nat} {c:Nat} (h:y5 xs ys k o c) (hx:∀ x∈xs,x<4294967296) (hy:∀ x∈ys,x<4294967296) :y5 xs ys (k+1) (o++[(lb xs k+lb ys k+c)%4294967296]) ((lb xs k+lb ys k+c)/4294967296):=by
 have h1:=fD hx k;have h2:=fD hy k;have h3:=h.carry;refine ⟨by simp [h.len],vE h.lt (Nat.mod_lt _ (by decide)),by omega,?_⟩;rw [Hr,BV,BV,h.len,Nat.pow_succ];have e:=h.val_eq;generalize 4294967296^k=B at *;generalize lb xs k=p at *;generalize lb ys k=q at *
 have e4:(p+q+c)*B=(p+q+c)%4294967296*B+(p+q+c)/4294967296*4294967296*B:=by
  conv=>lhs;rw [show p+q+c=(p+q+c)%4294967296+(p+q+c)/4294967296*4294967296 by omega]
  rw [Nat.add_mul]
 rw [Nat.add_mul,Nat.add_mul] at e4;have e5:(p+q+c)/4294967296*(B*4294967296)=(p+q+c)/4294967296*4294967296*B:=by rw [Nat.mul_comm B 4294967296,← Nat.mul_assoc]
 rw [e5];omega
theorem y5.done {xs ys:List Nat} {k:Nat} {o:List Nat} {c:Nat} (h:y5 xs ys (k+1) o c) (hx:∀ x∈xs,x<4294967296) (hy:∀ x∈ys,x<4294967296) (h1:xs.length≤k) (h2:ys.length≤k) :val o=val xs+val ys:=by
 have e:=h.val_eq;have a1:=XZ xs k hx;have a2:=XZ ys k hy;rw [Hq xs _ (by omega)] at e a1;rw [Hq ys _ (by omega)] at e a2;have h3:=h.carry;rw [Nat.pow_succ] at e;have hB:0<4294967296^k:=Nat.pow_pos (by decide);generalize 4294967296^k=B at *;have:c=0∨c=1:=by omega
 rcases this with rfl | rfl<;>omega
theorem nu {w0 w:World} (hB:Below w0.heap.size w0 w) {v:Value} {o:List Nat} (hown:Own w w0.heap.size v o) (z:Int) (x:Nat) (hz:z=(x:Int)) (hx:x<4294967296) (hlen:o.length+1≤35184372088832) :∃ v' w',(Builtin.append_ #[24,24] 24 #[v,.slice (some ⟨w.heap.size,0,none⟩) 1 1]).run prog (w.alloc (.cells #[.int .u32 z] 57)) = .ok v' w'∧Own w' w0.heap.size v' (o++[x])∧Below w0.heap.size w0 w':=by subst hz;have hu:U (w.alloc (.cells #[.int .u32 (x:Int)] 57)) (.slice (some ⟨w.heap.size,0,none⟩) 1 1) [x]:=Lj w [x] (by simpa using hx) (by simp);have hB1:=hB.alloc hB.size (.cells #[.int .u32 (x:Int)] 57);obtain ⟨v',w',hrun,ho,hg⟩:=uR _ w0.heap.size _ o (World.ownsRow.alloc hown _) _ _ hu (by simpa using hlen) hB1.size;exact ⟨v',w',hrun,ho,hB1.grown hg hB1.size (fun j e=>(World.ownsRow.lt hown j e).1)⟩
set_option maxRecDepth 100000 in
theorem PR (w:World) (v u:Value) (xs ys:List Nat) (h:U w v xs) (g:U w u ys) (hl:xs.length≤100000000) (hl2:ys.length≤100000000) :Calls prog 77 #[v,u] w fun e w'=>(∃ z,e = .returned z∧U w' z (limbs (val xs+val ys)))∧Below w.heap.size w w':=by
 obtain ⟨A,c,rfl,⟨hc,hm⟩,hx,hr⟩:=id h;obtain ⟨A2,c2,rfl,⟨hc2,hm2⟩,hx2,hr2⟩:=id g;clear hr hr2;go_enter func77,ntmps77;go_wp2_with (fail);have hown0:Own (w.alloc (.cells #[] 57)) w.heap.size (.slice (some ⟨w.heap.size,0,none⟩) 0 0) []:=World.ownsRow_lit w #[] 0 (Nat.le_refl _) (Nat.zero_le _) rfl;have hB0:Below w.heap.size w (w.alloc (.cells #[] 57)):=(Below.refl _ _).alloc (Nat.le_refl _) _;go_loopw [5,6,7] (fun s cv i wr=>∃ (k cy:Nat) (o:List Nat),k≤max xs.length ys.length+1∧i = .int .i64 k∧cv = .int .u64 cy∧Hid (y5 xs ys k o cy)∧Own wr w.heap.size s o∧Below w.heap.size w wr) (fun _ _ i _=>max xs.length ys.length+2-(intOf i).toNat);case atStart=>exact ⟨0,0,[],Nat.zero_le _,rfl,rfl,y5.start xs ys,hown0,hB0⟩
 case round =>
  clear hown0 hB0;obtain ⟨k,cy,o,hk,rfl,rfl,HO,hown,hB⟩:=hrel;by_cases hd1:k≤xs.length
  · have h1:=fD hx k;have h2:=fD hx2 k;have h3:=HO.out.carry;have hlen:=HO.out.len;obtain ⟨x1,hx1⟩:∃ x1,(lb xs k+lb ys k+cy)%4294967296=x1:=⟨_,rfl⟩;obtain ⟨c1,hc1⟩:∃ c1,(lb xs k+lb ys k+cy)/4294967296=c1:=⟨_,rfl⟩;have RF:Hid (y5 xs ys (k+1) (o++[x1]) c1):=(by rw [Hid,← hx1,← hc1];exact HO.out.step hx hx2);obtain ⟨v',w',hrun,hown',hB'⟩:=nu hB hown ((((lb xs k:Nat):Int)+((lb ys k:Nat):Int)+(cy:Int))%4294967296) x1 (by rw [← hx1];omega) (by rw [← hx1];exact Nat.mod_lt _ (by decide)) (by omega);obtain ⟨t1,t2,t3⟩:=jW hrun;have hk2:k+1≤max xs.length ys.length+1:=(by omega);have RG:Hid ((((lb xs k:Nat):Int)+((lb ys k:Nat):Int)+(cy:Int))/4294967296=(c1:Int)):=(by rw [Hid,← hc1];omega);clear hrun hx1 hc1 hlen;go_wp2_with (fail);refine (eZ _ _ xs _ k rfl (h.below hB)).mono ?_;rintro e w' ⟨rfl,rfl⟩;go_wp2_with (fail);refine (eZ _ _ ys _ k rfl (g.below hB)).mono ?_;rintro e w' ⟨rfl,rfl⟩;go_wp2_with (fail);go_roundw;case rel=>exact ⟨k+1,c1,_,hk2,by go_num,by rw [RG.out],RF,hown',hB'⟩
    case measure=>simp [intOf];omega
  · by_cases hd2:k≤ys.length
    · have h1:=fD hx k;have h2:=fD hx2 k;have h3:=HO.out.carry;have hlen:=HO.out.len;obtain ⟨x1,hx1⟩:∃ x1,(lb xs k+lb ys k+cy)%4294967296=x1:=⟨_,rfl⟩;obtain ⟨c1,hc1⟩:∃ c1,(lb xs k+lb ys k+cy)/4294967296=c1:=⟨_,rfl⟩;have RF:Hid (y5 xs ys (k+1) (o++[x1]) c1):=(by rw [Hid,← hx1,← hc1];exact HO.out.step hx hx2);obtain ⟨v',w',hrun,hown',hB'⟩:=nu hB hown ((((lb xs k:Nat):Int)+((lb ys k:Nat):Int)+(cy:Int))%4294967296) x1 (by rw [← hx1];omega) (by rw [← hx1];exact Nat.mod_lt _ (by decide)) (by omega);obtain ⟨t1,t2,t3⟩:=jW hrun;have hk2:k+1≤max xs.length ys.length+1:=(by omega);have RG:Hid ((((lb xs k:Nat):Int)+((lb ys k:Nat):Int)+(cy:Int))/4294967296=(c1:Int)):=(by rw [Hid,← hc1];omega);clear hrun hx1 hc1 hlen;go_wp2_with (fail);refine (eZ _ _ xs _ k rfl (h.below hB)).mono ?_;rintro e w' ⟨rfl,rfl⟩;go_wp2_with (fail);refine (eZ _ _ ys _ k rfl (g.below hB)).mono ?_;rintro e w' ⟨rfl,rfl⟩;go_wp2_with (fail);go_roundw;case rel=>exact ⟨k+1,c1,_,hk2,by go_num,by rw [RG.out],RF,hown',hB'⟩
      case measure=>simp [intOf];omega
    · have hlen:=HO.out.len;obtain ⟨j,rfl⟩:∃ j,k=j+1:=⟨k-1,by omega⟩;have HV:Hid (val o=val xs+val ys):=HO.out.done hx hx2 (by omega) (by omega);have hu:=hown.Ht HO.out.lt (by omega);have hol:o.length≤1000000000:=(by omega);clear hlen;go_wp2_with (fail);refine (iQ _ _ _ hu hol).mono ?_;rintro e w' ⟨⟨z,rfl,hz⟩,hB2⟩;rw [HV.out] at hz;replace hB:=Below.trans hB (Below.mono hB2 hB.size);go_wp2;go_ret;exact ⟨⟨_,rfl,hz⟩,hB⟩
attribute [local go_sem ↓] pI
attribute [local go_sem] je
structure Cf (xs ys:List Nat) (k:Nat) (o:List Nat) (c:Nat):Prop where
 len:o.length=k
 lt:∀ x∈o,x<4294967296
 carry:c≤1
 val_eq:val o+pv ys k=pv xs k+c*4294967296^k
theorem Cf.start (xs ys:List Nat):Cf xs ys 0 [] 0:=⟨rfl,by simp,by omega,rfl⟩
theorem Cf.step {xs ys:List Nat} {k:Nat} {o:List Nat} {c:Nat} (h:Cf xs ys k o c) (hx:∀ x∈xs,x<4294967296) (hy:∀ x∈ys,x<4294967296) :Cf xs ys (k+1) (o++[(4294967296+lb xs k-lb ys k-c)%4294967296]) (1-(4294967296+lb xs k-lb ys k-c)/4294967296):=by
 have h1:=fD hx k;have h2:=fD hy k;have h3:=h.carry;refine ⟨by simp [h.len],vE h.lt (Nat.mod_lt _ (by decide)),by omega,?_⟩;rw [Hr,BV,BV,h.len,Nat.pow_succ];have e:=h.val_eq;generalize 4294967296^k=B at *;generalize lb xs k=p at *;generalize lb ys k=q at *;obtain ⟨d,hd⟩:∃ d,(4294967296+p-q-c)%4294967296=d:=⟨_,rfl⟩;obtain ⟨f,hf⟩:∃ f,1-(4294967296+p-q-c)/4294967296=f:=⟨_,rfl⟩;have e3:d+q+c=p+f*4294967296:=by omega
 rw [hd,hf];have e4:(d+q+c)*B=(p+f*4294967296)*B:=by rw [e3]
 rw [Nat.add_mul,Nat.add_mul,Nat.add_mul] at e4;have e5:f*(B*4294967296)=f*4294967296*B:=by rw [Nat.mul_comm B 4294967296,← Nat.mul_assoc]
 rw [e5];omega
theorem Cf.done {xs ys:List Nat} {o:List Nat} {c:Nat} (h:Cf xs ys xs.length o c) (hl:ys.length≤xs.length) (hge:val ys≤val xs):val o=val xs-val ys:=by
 have e:=h.val_eq;rw [Hq xs _ (Nat.le_refl _),Hq ys _ hl] at e;have hlt:=ru o h.lt;rw [h.len] at hlt;have hc:=h.carry;generalize 4294967296^xs.length=B at *;have:c=0∨c=1:=by omega
 rcases this with rfl | rfl<;>omega
set_option maxRecDepth 100000 in
theorem PS (w:World) (v u:Value) (n m:Nat) (h:Un w v n) (g:Un w u m) (hl:(limbs n).length≤100000000) (hl2:(limbs m).length≤100000000) (b:Bool) (hb:decide (m≤n)=b) (d:Nat) (hd:n-m=d) :Calls prog 85 #[v,u] w fun e w'=>(∃ z,e = .returned (.tuple #[z,.bool b])∧Un w' z d)∧Below w.heap.size w w':=by
 obtain ⟨A,c,rfl,⟨hc,hm⟩,hx,hr⟩:=id h;obtain ⟨A2,c2,rfl,⟨hc2,hm2⟩,hx2,hr2⟩:=id g;clear hr hr2;rcases Nat.lt_or_ge n m with hlt | hge
 · have HF:Hid (dA (val (limbs n):Nat) (val (limbs m):Nat) = -1):=(by rw [Hid,aM,aM];exact lU (Int.ofNat_lt.2 hlt));obtain rfl:d=0:=(by omega);obtain rfl:b=false:=(by rw [← hb,decide_eq_false_iff_not];omega);clear hb hd hlt;go_enter func85,ntmps85;go_wp2_with (fail);refine (qX _ _ _ _ _ h g (by omega) (by omega)).mono ?_;rintro e w' ⟨rfl,rfl⟩;rw [HF.out];go_wp2;go_ret2;exact ⟨⟨_,rfl,Oa _⟩,Below.refl _ _⟩
 · have HF:Hid (0≤dA (val (limbs n):Nat) (val (limbs m):Nat)):=by
    rw [Hid,aM,aM];rcases Nat.lt_or_ge m n with h1 | h1
    · rw [mF (Int.ofNat_lt.2 h1)];decide
    · obtain rfl:n=m:=(by omega);rw [qD];decide
   obtain rfl:b=true:=(by rw [← hb,decide_eq_true_iff];omega);have HD:=Lib.hid hd;have HG:=Lib.hid hge;have hll:=iK hge;clear hb hd hge;obtain ⟨K,hK⟩:∃ K,dA (val (limbs n):Nat) (val (limbs m):Nat)=K:=⟨_,rfl⟩;have hK0:0≤K:=(by rw [← hK];exact HF.out);clear HF;go_enter func85,ntmps85;go_wp2_with (fail);refine (qX _ _ _ _ _ h g (by omega) (by omega)).mono ?_;rintro e w' ⟨rfl,rfl⟩;rw [hK];clear hK;go_wp2_with (fail);have hown0:Own (w.alloc (.cells #[] 57)) w.heap.size (.slice (some ⟨w.heap.size,0,none⟩) 0 0) []:=World.ownsRow_lit w #[] 0 (Nat.le_refl _) (Nat.zero_le _) rfl;have hB0:Below w.heap.size w (w.alloc (.cells #[] 57)):=(Below.refl _ _).alloc (Nat.le_refl _) _;go_loopw [6,7,8] (fun s cv i wr=>∃ (k cy:Nat) (o:List Nat),k≤(limbs n).length∧i = .int .i64 k∧cv = .int .u64 cy∧Hid (Cf (limbs n) (limbs m) k o cy)∧Own wr w.heap.size s o∧Below w.heap.size w wr) (fun _ _ i _=>(limbs n).length-(intOf i).toNat);case atStart=>exact ⟨0,0,[],Nat.zero_le _,rfl,rfl,Cf.start _ _,hown0,hB0⟩
   case round =>
    clear hown0 hB0;obtain ⟨k,cy,o,hk,rfl,rfl,HO,hown,hB⟩:=hrel;by_cases hd1:k<(limbs n).length
    · have h1:=fD hx k;have h2:=fD hx2 k;have h3:=HO.out.carry;have hlen:=HO.out.len;obtain ⟨x1,hx1⟩:∃ x1,(4294967296+lb (limbs n) k-lb (limbs m) k-cy)%4294967296=x1:=⟨_,rfl⟩;obtain ⟨c1,hc1⟩:∃ c1,1-(4294967296+lb (limbs n) k-lb (limbs m) k-cy)/4294967296=c1:=⟨_,rfl⟩;have RF:Hid (Cf (limbs n) (limbs m) (k+1) (o++[x1]) c1):=(by rw [Hid,← hx1,← hc1];exact HO.out.step hx hx2);obtain ⟨v',w',hrun,hown',hB'⟩:=nu hB hown ((4294967296+((lb (limbs n) k:Nat):Int)-((lb (limbs m) k:Nat):Int)-(cy:Int))%4294967296) x1 (by rw [← hx1];omega) (by rw [← hx1];exact Nat.mod_lt _ (by decide)) (by omega);obtain ⟨t1,t2,t3⟩:=jW hrun;have RG:Hid (1-(4294967296+((lb (limbs n) k:Nat):Int)-((lb (limbs m) k:Nat):Int)-(cy:Int))/4294967296=(c1:Int)):=(by rw [Hid,← hc1];omega);clear hrun hx1 hc1 hlen;go_wp2_with (fail);refine (eZ _ _ (limbs n) _ k rfl (U.below h hB)).mono ?_;rintro e w' ⟨rfl,rfl⟩;go_wp2_with (fail);refine (eZ _ _ (limbs m) _ k rfl (U.below g hB)).mono ?_;rintro e w' ⟨rfl,rfl⟩;go_wp2_with (fail);go_roundw;case rel=>exact ⟨k+1,c1,_,by omega,by go_num,by rw [RG.out],RF,hown',hB'⟩
      case measure=>simp [intOf];omega
    · have hlen:=HO.out.len;obtain rfl:k=(limbs n).length:=(by omega);have HV:Hid (val o=d):=(by rw [Hid,HO.out.done hll (by rw [aM,aM];exact HG.out),aM,aM];exact HD.out);have hu:=hown.Ht HO.out.lt (by omega);have hol:o.length≤1000000000:=(by omega);clear hlen;go_wp2_with (fail);refine (iQ _ _ _ hu hol).mono ?_;rintro e w' ⟨⟨z,rfl,hz⟩,hB2⟩;have hz2:Un w' z d:=(by rw [← HV.out];exact hz);replace hB:=Below.trans hB (Below.mono hB2 hB.size);clear hz;go_wp2;go_ret2;exact ⟨⟨_,rfl,hz2⟩,hB⟩
attribute [local go_sem ↓] pI
attribute [local go_sem] je
structure EH (xs:List Nat) (q P k:Nat) (o:List Nat) (c:Nat):Prop where
 len:o.length=q+k
 lt:∀ x∈o,x<4294967296
 carry:c<P
 val_eq:val o+c*4294967296^(q+k)=pv xs k*P*4294967296^q
theorem EH.start (xs:List Nat) (q P:Nat) (hP:0<P):EH xs q P 0 (List.replicate q 0) 0 :=
 ⟨by simp,by intro x hx;have:=List.eq_of_mem_replicate hx;omega,hP,by rw [gF,aaK];simp⟩
theorem EH.step {xs:List Nat} {q P k:Nat} {o:List Nat} {c:Nat} (h:EH xs q P k o c) (hx:∀ x∈xs,x<4294967296) :EH xs q P (k+1) (o++[(lb xs k*P+c)%4294967296]) ((lb xs k*P+c)/4294967296):=by
 have h1:=fD hx k;have h3:=h.carry;have h4:lb xs k*P+c<4294967296*P:=by have:=Nat.mul_le_mul_right P (show lb xs k+1≤4294967296 by omega);rw [Nat.add_mul] at this;omega
 refine ⟨by simp [h.len];omega,vE h.lt (Nat.mod_lt _ (by decide)),by rw [Nat.div_lt_iff_lt_mul (by decide),Nat.mul_comm P];exact h4,?_⟩;rw [Hr,BV,h.len,← Nat.add_assoc,Nat.pow_succ,Nat.pow_add 4294967296 q k];have e:=h.val_eq;rw [Nat.pow_add] at e;generalize 4294967296^k=B at *;generalize 4294967296^q=C at *;obtain ⟨X,hX⟩:∃ X,lb xs k*P+c=X:=⟨_,rfl⟩;have e3:X=X%4294967296+X/4294967296*4294967296:=by omega
 have e4:X*(C*B)=X%4294967296*(C*B)+X/4294967296*(C*B*4294967296):=by
  conv=>lhs;rw [e3]
  rw [Nat.add_mul,Nat.mul_assoc (X/4294967296),Nat.mul_comm 4294967296]
 have e5:X*(C*B)=lb xs k*P*(C*B)+c*(C*B):=by rw [← hX,Nat.add_mul]
 have e6:lb xs k*P*(C*B)=lb xs k*B*P*C:=by rw [Nat.mul_comm C B,← Nat.mul_assoc,Nat.mul_right_comm (lb xs k) P B]
 rw [hX,Nat.add_mul,Nat.add_mul];omega
theorem EH.done {xs:List Nat} {q P k:Nat} {o:List Nat} {c:Nat} (h:EH xs q P (k+1) o c) (hx:∀ x∈xs,x<4294967296) (h1:xs.length≤k) (hP:P<4294967296) :val o=val xs*P*4294967296^q:=by
 have e:=h.val_eq;have a1:=XZ xs k hx;rw [Hq xs _ (by omega)] at e a1
 have hc:c=0:=by
  rcases Nat.eq_zero_or_pos c with h0 | h0
  · exact h0
  · exfalso;have b1:4294967296^(q+(k+1))≤c*4294967296^(q+(k+1)):=Nat.le_mul_of_pos_left _ h0;have b2:val xs*P<4294967296^(k+1):=(by rw [Nat.pow_succ];exact Nat.mul_lt_mul'' a1 hP);have b3:val xs*P*4294967296^q<4294967296^(k+1)*4294967296^q:=Nat.mul_lt_mul_of_pos_right b2 (Nat.pow_pos (by decide));rw [← Nat.pow_add,Nat.add_comm (k+1) q] at b3;omega
 subst hc;omega
theorem Ef (w:World) (v:Value) (xs:List Nat) (h:U w v xs) (hl:xs.length≤1000000000) (n:Nat) (hn:val xs=n) :Calls prog 100 #[v] w fun e w'=>∃ u,e = .returned u∧Un w' u n∧Ext w w' :=
 (iQ w v xs h hl).mono fun e w' ⟨⟨u,he,hu⟩,hw⟩=>⟨u,he,by rw [Un,← hn];exact hu,hw⟩
theorem YA (w:World) (v:Value) (n:Nat) (h:Un w v n) (hl:(limbs n).length≤1000000000) (k:Int) (hk:((dI n:Nat):Int)=k) :Calls prog 131 #[v] w fun e w'=>e = .returned (.int .i64 k)∧Ext w w' :=
 (NP w v n h hl).mono fun e w' ⟨he,m,hw⟩=>⟨by rw [he,hk],by rw [hw];exact kI w m⟩
theorem oz (w:World) (v:Value) (n:Nat) (i:Int) (h:Un w v n) (hi0 : -9000000000000≤i) (hi1:i≤9000000000000) (k:Int) (hk:((rY n i:Nat):Int)=k) :Calls prog 37 #[v,.int .i64 i] w fun e w'=>e = .returned (.int .u32 k)∧Ext w w' :=
 (PO w v n i hi0 hi1 h).mono fun e w' ⟨he,hw⟩=>⟨by rw [he,hk],by rw [← hw];exact Ext.refl w⟩
theorem iB (w:World) (v u:Value) (n m:Nat) (h:Un w v n) (g:Un w u m) (hl:(limbs n).length≤1000000000) (hl2:(limbs m).length≤1000000000) (k:Int) (hk:dA n m=k) :Calls prog 47 #[v,u] w fun e w'=>e = .returned (.int .i64 k)∧Ext w w' :=
 (qX w v u _ _ h g hl hl2).mono fun e w' ⟨he,hw⟩=>⟨by rw [he,aM,aM,hk],by rw [← hw];exact Ext.refl w⟩
theorem sZ (w:World) (v u:Value) (n m:Nat) (h:Un w v n) (g:Un w u m) (hm:(limbs n).length≤100000000) (hm2:(limbs m).length≤100000000) (s:Nat) (hs:n+m=s) :A0l 77 #[v,u] w s:=by subst hs;have:=PR w v u _ _ h g hm hm2;rw [aM,aM] at this;exact this.mono fun e w' ⟨⟨z,he,hz⟩,hb⟩=>⟨z,he,hz,hb⟩
theorem oH (w:World) (v u:Value) (n m:Nat) (h:Un w v n) (g:Un w u m) (hm:(limbs n).length≤100000000) (hm2:(limbs m).length≤100000000) (b:Bool) (hb:decide (m≤n)=b) (d:Nat) (hd:n-m=d) :Calls prog 85 #[v,u] w fun e w'=>∃ z,e = .returned (.tuple #[z,.bool b])∧Un w' z d∧Ext w w' :=
 (PS w v u n m h g hm hm2 b hb d hd).mono fun e w' ⟨⟨z,he,hz⟩,hb⟩=>⟨z,he,hz,hb⟩
