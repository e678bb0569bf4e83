/- What a step makes of two numbers, and of two cofactors. -/
import Derived.Test.YtgcieamfidoaoaaGreatDoorEab
import Derived.Test.YtgcieamfidoaoaaGreatDoorEbe
import Derived.Test.YtgcieamfidoaoaaGreatDoorEbc
import Derived.Test.YtgcieamfidoaoaaGreatDoorEbk
set_option linter.all false
set_option maxHeartbeats 8000000
namespace Go.Proofs.YtgcieamfidoaoaaGreatDoor
open Go.RowKit
set_option maxRecDepth 100000
theorem CX {o:List Nat} {i x:Nat} (ho:∀ y∈o,y<4294967296) (hx:x<4294967296):∀ y∈o.set i x,y<4294967296:=by
 intro y hy
 rcases List.mem_or_eq_of_mem_set hy with h | h
 · exact ho y h
 · omega
theorem KU {a b p q n i up dn bo:Nat} {o:List Nat} (ho:∀ x∈o,x<4294967296) (hlo:o.length=n) (hin:i<n) (PO:bo≤1) (hup:up<4294967296) (hdn:dn<4294967296)
  (hJ:val (o.take i)+q*(b%4294967296^i)+up*4294967296^i=p*(a%4294967296^i)+(bo+dn)*4294967296^i) (Zj:up*4294967296^i≤p*(a%4294967296^i)) (hJd:dn*4294967296^i≤q*(b%4294967296^i))
  (hp:p<4294967296) (hq:q<4294967296) (hai:lb (limbs a) i<4294967296) (hbi:lb (limbs b) i<4294967296) :
  (∀ x∈o.set i (nS ((up+p*lb (limbs a) i)%4294967296) ((dn+q*lb (limbs b) i)%4294967296) bo),x<4294967296)∧qJ ((up+p*lb (limbs a) i)%4294967296) ((dn+q*lb (limbs b) i)%4294967296) bo≤1 ∧
  (up+p*lb (limbs a) i)/4294967296<4294967296∧(dn+q*lb (limbs b) i)/4294967296<4294967296 ∧
  val ((o.set i (nS ((up+p*lb (limbs a) i)%4294967296) ((dn+q*lb (limbs b) i)%4294967296) bo)).take (i+1))+q*(b%4294967296^(i+1))+(up+p*lb (limbs a) i)/4294967296*4294967296^(i+1) =
   p*(a%4294967296^(i+1))+(qJ ((up+p*lb (limbs a) i)%4294967296) ((dn+q*lb (limbs b) i)%4294967296) bo+(dn+q*lb (limbs b) i)/4294967296)*4294967296^(i+1) ∧
  (up+p*lb (limbs a) i)/4294967296*4294967296^(i+1)≤p*(a%4294967296^(i+1))∧(dn+q*lb (limbs b) i)/4294967296*4294967296^(i+1)≤q*(b%4294967296^(i+1)):=by
 have hsd:=rT ((up+p*lb (limbs a) i)%4294967296) ((dn+q*lb (limbs b) i)%4294967296) bo
 have hsc:=yu ((up+p*lb (limbs a) i)%4294967296) ((dn+q*lb (limbs b) i)%4294967296) bo
 have hst:=yx ((up+p*lb (limbs a) i)%4294967296) ((dn+q*lb (limbs b) i)%4294967296) bo (Nat.mod_lt _ (by decide)) (Nat.mod_lt _ (by decide)) PO
 have hpa:p*lb (limbs a) i≤4294967295*4294967295:=Nat.mul_le_mul (by omega) (by omega)
 have ND:q*lb (limbs b) i≤4294967295*4294967295:=Nat.mul_le_mul (by omega) (by omega)
 have hv:=ym o i (nS ((up+p*lb (limbs a) i)%4294967296) ((dn+q*lb (limbs b) i)%4294967296) bo) (by omega)
 refine ⟨CX ho hsd,hsc,by omega,by omega,?_,?_,?_⟩
 · rw [hv,mod_succ,mod_succ,Nat.pow_succ]
   generalize nS ((up+p*lb (limbs a) i)%4294967296) ((dn+q*lb (limbs b) i)%4294967296) bo=d at *
   generalize qJ ((up+p*lb (limbs a) i)%4294967296) ((dn+q*lb (limbs b) i)%4294967296) bo=c at *
   have e1:=Nat.div_add_mod (up+p*lb (limbs a) i) 4294967296
   have e2:=Nat.div_add_mod (dn+q*lb (limbs b) i) 4294967296
   generalize (up+p*lb (limbs a) i)%4294967296=u1 at *
   generalize (up+p*lb (limbs a) i)/4294967296=u2 at *
   generalize (dn+q*lb (limbs b) i)%4294967296=d1 at *
   generalize (dn+q*lb (limbs b) i)/4294967296=d2 at *
   clear Zj hJd hv
   generalize 4294967296^i=T at *
   generalize lb (limbs a) i=x at *
   generalize lb (limbs b) i=y at *
   have k:(d+q*y+u2*4294967296)+(bo+dn)=p*x+up+(c+d2)*4294967296:=by omega
   have k2:=congrArg (·*T) k
   simp only [Nat.add_mul] at k2
   have r1:q*(b%T+y*T)=q*(b%T)+q*y*T:=by rw [Nat.mul_add,Nat.mul_assoc]
   have r2:p*(a%T+x*T)=p*(a%T)+p*x*T:=by rw [Nat.mul_add,Nat.mul_assoc]
   have r3:u2*(T*4294967296)=u2*4294967296*T:=by rw [Nat.mul_assoc,Nat.mul_comm T]
   have r4:(c+d2)*(T*4294967296)=c*4294967296*T+d2*4294967296*T:=by rw [Nat.mul_comm T,← Nat.mul_assoc,Nat.add_mul,Nat.add_mul]
   rw [r1,r2,r3,r4]
   rw [Nat.add_mul] at hJ
   omega
 · rw [mod_succ,Nat.pow_succ,Nat.mul_comm (4294967296^i),← Nat.mul_assoc]
   have e1:=Nat.div_mul_le_self (up+p*lb (limbs a) i) 4294967296
   have e2:=Nat.mul_le_mul_right (4294967296^i) e1
   rw [Nat.add_mul] at e2
   rw [Nat.mul_add,← Nat.mul_assoc]
   omega
 · rw [mod_succ,Nat.pow_succ,Nat.mul_comm (4294967296^i),← Nat.mul_assoc]
   have e1:=Nat.div_mul_le_self (dn+q*lb (limbs b) i) 4294967296
   have e2:=Nat.mul_le_mul_right (4294967296^i) e1
   rw [Nat.add_mul] at e2
   rw [Nat.mul_add,← Nat.mul_assoc]
   omega
theorem OO {a b p q i up dn bo:Nat} {o:List Nat} (ho:∀ x∈o,x<4294967296) (hlo:o.length=i) (PO:bo≤1)
  (hJ:val (o.take i)+q*(b%4294967296^i)+up*4294967296^i=p*(a%4294967296^i)+(bo+dn)*4294967296^i) (Zj:up*4294967296^i≤p*(a%4294967296^i)) (hJd:dn*4294967296^i≤q*(b%4294967296^i))
  (hp:p<4294967296) (hba:q*b≤p*a) (ha:a<4294967296^(i-1)) (hb:b<4294967296^i) (h1:1≤i):val o=p*a-q*b:=by
 have acH:4294967296^i=4294967296*4294967296^(i-1):=by rw [Nat.mul_comm,← Nat.pow_succ];congr 1;omega
 have ha2:a<4294967296^i:=Nat.lt_of_lt_of_le ha (Nat.pow_le_pow_right (by decide) (Nat.sub_le _ _))
 rw [Nat.mod_eq_of_lt ha2] at hJ Zj
 rw [Nat.mod_eq_of_lt hb] at hJ hJd
 have hpa:p*a<4294967296^i:=by rw [acH];exact Nat.mul_lt_mul'' hp ha
 have hlt:val o<4294967296^i:=by rw [← hlo];exact mQ o ho
 rw [List.take_of_length_le (by omega)] at hJ
 have z:∀ k T:Nat,k*T<T→k=0:=fun k T h=>by
  rcases Nat.eq_zero_or_pos k with h0 | h0
  · exact h0
  · have:=Nat.mul_le_mul_right T h0;omega
 have hu:=z up _ (Nat.lt_of_le_of_lt Zj hpa)
 have hd:=z dn _ (Nat.lt_of_le_of_lt (Nat.le_trans hJd hba) hpa)
 subst hu hd
 rw [Nat.zero_mul,Nat.add_zero,Nat.add_zero] at hJ
 have hb0:bo=0:=z bo (4294967296^i) (by omega)
 subst hb0
 omega
theorem OP {a b p q n i cy:Nat} {o:List Nat} (ho:∀ x∈o,x<4294967296) (hlo:o.length=n) (hin:i<n) (hcy:cy<17179869184)
  (hJ:val (o.take i)+cy*4294967296^i=p*(a%4294967296^i)+q*(b%4294967296^i))
  (hp:p<4294967296) (hq:q<4294967296) (hai:lb (limbs a) i<4294967296) (hbi:lb (limbs b) i<4294967296) :
  (∀ x∈o.set i ((cy+p*lb (limbs a) i%4294967296+q*lb (limbs b) i%4294967296)%4294967296),x<4294967296) ∧
  (cy+p*lb (limbs a) i%4294967296+q*lb (limbs b) i%4294967296)/4294967296+(0+p*lb (limbs a) i/4294967296+q*lb (limbs b) i/4294967296)<17179869184 ∧
  val ((o.set i ((cy+p*lb (limbs a) i%4294967296+q*lb (limbs b) i%4294967296)%4294967296)).take (i+1))+((cy+p*lb (limbs a) i%4294967296+q*lb (limbs b) i%4294967296)/4294967296+(0+p*lb (limbs a) i/4294967296+q*lb (limbs b) i/4294967296))*4294967296^(i+1) =
   p*(a%4294967296^(i+1))+q*(b%4294967296^(i+1)):=by
 have hpa:p*lb (limbs a) i≤4294967295*4294967295:=Nat.mul_le_mul (by omega) (by omega)
 have ND:q*lb (limbs b) i≤4294967295*4294967295:=Nat.mul_le_mul (by omega) (by omega)
 have hv:=ym o i ((cy+p*lb (limbs a) i%4294967296+q*lb (limbs b) i%4294967296)%4294967296) (by omega)
 refine ⟨CX ho (Nat.mod_lt _ (by decide)),by omega,?_⟩
 rw [hv,mod_succ,mod_succ,Nat.pow_succ]
 have k:(cy+p*lb (limbs a) i%4294967296+q*lb (limbs b) i%4294967296)%4294967296+((cy+p*lb (limbs a) i%4294967296+q*lb (limbs b) i%4294967296)/4294967296+(0+p*lb (limbs a) i/4294967296+q*lb (limbs b) i/4294967296))*4294967296=cy+p*lb (limbs a) i+q*lb (limbs b) i:=by omega
 generalize (cy+p*lb (limbs a) i%4294967296+q*lb (limbs b) i%4294967296)%4294967296=d at *
 generalize (cy+p*lb (limbs a) i%4294967296+q*lb (limbs b) i%4294967296)/4294967296+(0+p*lb (limbs a) i/4294967296+q*lb (limbs b) i/4294967296)=c at *
 generalize 4294967296^i=T at *
 generalize lb (limbs a) i=x at *
 generalize lb (limbs b) i=y at *
 have k2:=congrArg (·*T) k
 simp only [Nat.add_mul] at k2
 have r1:q*(b%T+y*T)=q*(b%T)+q*y*T:=by rw [Nat.mul_add,Nat.mul_assoc]
 have r2:p*(a%T+x*T)=p*(a%T)+p*x*T:=by rw [Nat.mul_add,Nat.mul_assoc]
 have r3:c*(T*4294967296)=c*4294967296*T:=by rw [Nat.mul_assoc,Nat.mul_comm T]
 rw [r1,r2,r3]
 omega
theorem R9 {a b p q i cy:Nat} {o:List Nat} (ho:∀ x∈o,x<4294967296) (hlo:o.length=i)
  (hJ:val (o.take i)+cy*4294967296^i=p*(a%4294967296^i)+q*(b%4294967296^i)) (hp:p<4294967296) (hq:q<4294967296) (ha:a<4294967296^(i-2)) (hb:b<4294967296^(i-2)) (h2:2≤i):val o=p*a+q*b:=by
 have acH:4294967296^i=4294967296*(4294967296*4294967296^(i-2)):=by rw [← Nat.mul_assoc,Nat.mul_comm,← Nat.pow_two,← Nat.pow_add];congr 1;omega
 have hle:=Nat.pow_le_pow_right (n:=4294967296) (by decide) (Nat.sub_le i 2)
 rw [Nat.mod_eq_of_lt (Nat.lt_of_lt_of_le ha hle),Nat.mod_eq_of_lt (Nat.lt_of_lt_of_le hb hle)] at hJ
 have hpa:p*a<4294967296*4294967296^(i-2):=Nat.mul_lt_mul'' hp ha
 have ND:q*b<4294967296*4294967296^(i-2):=Nat.mul_lt_mul'' hq hb
 rw [List.take_of_length_le (by omega)] at hJ
 have h0:cy=0:=by
  rcases Nat.eq_zero_or_pos cy with h0 | h0
  · exact h0
  · have:=Nat.mul_le_mul_right (4294967296^i) h0;omega
 subst h0
 omega
theorem pY (w:World) (va vb:Value) (a b p q:Nat) (ha:Un w va a) (hb:Un w vb b) (hla:Sn a 900000) (hlb:Sn b 900000) (hp:p<4294967296) (hq:q<4294967296) (hba:q*b≤p*a) :
  Calls Tryz.prog 239 #[va,.int .u64 (p:Int),vb,.int .u64 (q:Int)] w fun e w'=>∃ z,e = .returned z∧Un w' z (p*a-q*b)∧Ext w w':=by
 obtain ⟨Aa,ca,rfl,-⟩:=Un.sh ha
 obtain ⟨Ab,cb,rfl,-⟩:=Un.sh hb
 obtain ⟨n,hn,hna,hnb⟩:∃ n:Nat,(if ((limbs b).length:Int)>((limbs a).length:Int) then ((limbs b).length:Int) else ((limbs a).length:Int))+1=(n:Int)∧(limbs a).length+1≤n∧(limbs b).length+1≤n:=by
  by_cases hc:((limbs b).length:Int)>((limbs a).length:Int)
  · rw [if_pos hc];exact ⟨(limbs b).length+1,by omega,by omega,by omega⟩
  · rw [if_neg hc];exact ⟨(limbs a).length+1,by omega,by omega,by omega⟩
 have hn1:n≤1000000:=by unfold Sn at hla hlb;split at hn<;>omega
 have hxa:=kH a
 have hxb:=kH b
 refine Pl.dF (n:=71) (vs:=[.slice Aa (limbs a).length ca,.int .u64 (p:Int),.slice Ab (limbs b).length cb,.int .u64 (q:Int)]) Tryz.func239 rfl (by kernel_rfl) (by simp) ?_
 refine Pl.aab rfl ?_
 refine Pl.jB trivial rfl ?_
 refine Pl.aH ?_
 refine Pl.aab rfl ?_
 refine Pl.jB trivial rfl ?_
 refine iY trivial rfl rfl rfl rfl rfl ?_
 refine Pl.jB trivial rfl ?_
 refine iY trivial rfl rfl rfl rfl rfl ?_
 refine R6 trivial rfl rfl rfl rfl rfl rfl ?_
 refine Pl.bn (v:=.int .i64 (n:Int)) trivial rfl rfl rfl rfl rfl rfl (fun X=>CL hn (by omega) (by omega) X) ?_
 refine Xp rfl rfl rfl rfl rfl rfl rfl (by omega) (fun _ _=>trivial) ?_
 intro N w1 hB1 hN hC0
 refine Pl.jB trivial rfl ?_
 refine Pl.aH ?_
 refine Pl.aab rfl ?_
 refine Pl.jB trivial rfl ?_
 refine Pl.aH ?_
 refine Pl.aab rfl ?_
 refine Pl.jB trivial rfl ?_
 refine iY trivial rfl rfl rfl rfl rfl ?_
 refine Pl.jB trivial rfl ?_
 refine Pl.aH ?_
 refine Pl.lM [(0,.slice Aa (limbs a).length ca),(1,.int .u64 (p:Int)),(2,.slice Ab (limbs b).length cb),(3,.int .u64 (q:Int)),(9,.slice (some ⟨N,0,none⟩) n n),(10,.int .u64 ((0:Nat):Int)),(11,.int .u64 ((0:Nat):Int)),(12,.int .u32 ((0:Nat):Int)),(22,.int .i64 (n:Int)),(23,.int .i64 (((0:Nat):Int):Int))] (Pl.aj rfl (Pl.aj rfl (Pl.aj rfl (Pl.aj rfl (Pl.aj rfl (Pl.aj rfl (Pl.aj rfl (Pl.aj rfl (Pl.aj rfl (Pl.aj rfl Pl.dQ)))))))))) ?_
 repeat refine Pl.aG ?_
 refine Pl.ko ?_
 repeat refine Pl.aG ?_
 refine Pl.tN (fun m l' w'=>∃ (i:Nat) (o:List Nat) (up dn bo:Nat),m=n-i∧i≤n∧o.length=n∧Cb w' N 57 (cu o)∧Ext w w'∧((∀ x∈o,x<4294967296)∧bo≤1∧up<4294967296∧dn<4294967296∧val (o.take i)+q*(b%4294967296^i)+up*4294967296^i=p*(a%4294967296^i)+(bo+dn)*4294967296^i∧up*4294967296^i≤p*(a%4294967296^i)∧dn*4294967296^i≤q*(b%4294967296^i))∧l'=[(0,.slice Aa (limbs a).length ca),(1,.int .u64 (p:Int)),(2,.slice Ab (limbs b).length cb),(3,.int .u64 (q:Int)),(9,.slice (some ⟨N,0,none⟩) n n),(10,.int .u64 ((up:Nat):Int)),(11,.int .u64 ((dn:Nat):Int)),(12,.int .u32 ((bo:Nat):Int)),(22,.int .i64 (n:Int)),(23,.int .i64 (i:Int))]) n ⟨0,List.replicate n 0,0,0,0,rfl,Nat.zero_le _,by simp,hC0,hB1,⟨fun x hx=>by rw [List.mem_replicate] at hx;omega,by omega,by omega,by omega,by simp [val,Nat.mod_one],by simp,by simp⟩,rfl⟩ ?_
 rintro m _ W ⟨i,o,up,dn,bo,rfl,hi,hlo,hC,hE,⟨ho,PO,hup,hdn,hJ,Zj,hJd⟩,rfl⟩
 by_cases hin:i<n
 · refine Pl.aab rfl ?_
   refine Pl.bn (v:=.bool true) trivial rfl rfl rfl rfl rfl rfl (fun X=>vR (decide_eq_true (by omega)) X) ?_
   refine Pl.aH ?_
   repeat refine Pl.aG ?_
   refine Pl.jV rfl ?_
   repeat refine Pl.aG ?_
   refine Pl.iT ?_
   repeat refine Pl.aG ?_
   refine Pl.ko ?_
   have hai:=dz hxa i
   have hbi:=dz hxb i
   refine Pl.aab rfl ?_
   refine Pl.jB trivial rfl ?_
   refine Pl.aH ?_
   have hpa:p*lb (limbs a) i≤4294967295*4294967295:=Nat.mul_le_mul (by omega) (by omega)
   have ND:q*lb (limbs b) i≤4294967295*4294967295:=Nat.mul_le_mul (by omega) (by omega)
   obtain ⟨bc,hbc⟩:∃ bc,decide ((i:Int)<((limbs a).length:Int))=bc:=⟨_,rfl⟩
   refine Pl.aab rfl ?_
   refine Pl.jB trivial rfl ?_
   refine iY trivial rfl rfl rfl rfl rfl ?_
   refine Pl.bn (v:=.bool bc) trivial rfl rfl rfl rfl rfl rfl (fun X=>vR hbc X) ?_
   refine Pl.aH ?_
   repeat refine Pl.aG ?_
   refine Pl.Cx (fun l' w'=>W=w'∧l'=[(0,.slice Aa (limbs a).length ca),(1,.int .u64 (p:Int)),(2,.slice Ab (limbs b).length cb),(3,.int .u64 (q:Int)),(9,.slice (some ⟨N,0,none⟩) n n),(10,.int .u64 ((up+p*lb (limbs a) i:Nat):Int)),(11,.int .u64 ((dn:Nat):Int)),(12,.int .u32 ((bo:Nat):Int)),(13,.int .i64 (i:Int)),(22,.int .i64 (n:Int)),(23,.int .i64 (i:Int))]) ?_ (fun key=>?_)
   rotate_left
   · cases bc
     · have h0:=ML (xs:=limbs a) (j:=i) (by rw [decide_eq_false_iff_not] at hbc;omega)
       repeat refine Pl.aG ?_
       refine Pl.gX rfl ?_
       repeat refine Pl.aG ?_
       refine Pl.iT ?_
       refine Pl.lM [(0,.slice Aa (limbs a).length ca),(1,.int .u64 (p:Int)),(2,.slice Ab (limbs b).length cb),(3,.int .u64 (q:Int)),(9,.slice (some ⟨N,0,none⟩) n n),(10,.int .u64 ((up:Nat):Int)),(11,.int .u64 ((dn:Nat):Int)),(12,.int .u32 ((bo:Nat):Int)),(13,.int .i64 (i:Int)),(22,.int .i64 (n:Int)),(23,.int .i64 (i:Int))] (Pl.aj rfl (Pl.aj rfl (Pl.aj rfl (Pl.aj rfl (Pl.aj rfl (Pl.aj rfl (Pl.aj rfl (Pl.aj rfl (Pl.aj rfl (Pl.aj rfl (Pl.aj rfl Pl.dQ))))))))))) ?_
       have hz:up+p*lb (limbs a) i=up:=by rw [h0];omega
       exact key _ _ ⟨rfl,by rw [hz]⟩
     · have hlt:i<(limbs a).length:=by rw [decide_eq_true_iff] at hbc;omega
       obtain ⟨pl,hi1,hl1⟩:=U.at (Un.below ha hE) hlt
       repeat refine Pl.aG ?_
       refine Pl.jV rfl ?_
       refine Pl.aab rfl ?_
       refine Pl.jB trivial rfl ?_
       refine qg trivial rfl rfl rfl rfl rfl rfl (hi1) ?_
       refine Pl.aY trivial rfl rfl rfl rfl rfl (hl1 _ (Ext.refl _)) ?_
       refine nG (v:=.int .u64 ((lb (limbs a) i:Nat):Int)) trivial rfl rfl rfl rfl rfl (fun X=>rR hai X) ?_
       refine Pl.bn (v:=.int .u64 ((p*lb (limbs a) i:Nat):Int)) trivial rfl rfl rfl rfl rfl rfl (fun X=>vS rfl (by omega) X) ?_
       refine Pl.bn (v:=.int .u64 ((up+p*lb (limbs a) i:Nat):Int)) trivial rfl rfl rfl rfl rfl rfl (fun X=>qF rfl (by omega) X) ?_
       refine Pl.jB trivial rfl ?_
       refine Pl.aH ?_
       refine Pl.lM [(0,.slice Aa (limbs a).length ca),(1,.int .u64 (p:Int)),(2,.slice Ab (limbs b).length cb),(3,.int .u64 (q:Int)),(9,.slice (some ⟨N,0,none⟩) n n),(10,.int .u64 ((up+p*lb (limbs a) i:Nat):Int)),(11,.int .u64 ((dn:Nat):Int)),(12,.int .u32 ((bo:Nat):Int)),(13,.int .i64 (i:Int)),(22,.int .i64 (n:Int)),(23,.int .i64 (i:Int))] (Pl.aj rfl (Pl.aj rfl (Pl.aj rfl (Pl.aj rfl (Pl.aj rfl (Pl.aj rfl (Pl.aj rfl (Pl.aj rfl (Pl.aj rfl (Pl.aj rfl (Pl.aj rfl Pl.dQ))))))))))) ?_
       exact key _ _ ⟨rfl,rfl⟩
   rintro _ _ ⟨rfl,rfl⟩
   obtain ⟨bc,hbc⟩:∃ bc,decide ((i:Int)<((limbs b).length:Int))=bc:=⟨_,rfl⟩
   refine Pl.aab rfl ?_
   refine Pl.jB trivial rfl ?_
   refine iY trivial rfl rfl rfl rfl rfl ?_
   refine Pl.bn (v:=.bool bc) trivial rfl rfl rfl rfl rfl rfl (fun X=>vR hbc X) ?_
   refine Pl.aH ?_
   repeat refine Pl.aG ?_
   refine Pl.Cx (fun l' w'=>W=w'∧l'=[(0,.slice Aa (limbs a).length ca),(1,.int .u64 (p:Int)),(2,.slice Ab (limbs b).length cb),(3,.int .u64 (q:Int)),(9,.slice (some ⟨N,0,none⟩) n n),(10,.int .u64 ((up+p*lb (limbs a) i:Nat):Int)),(11,.int .u64 ((dn+q*lb (limbs b) i:Nat):Int)),(12,.int .u32 ((bo:Nat):Int)),(13,.int .i64 (i:Int)),(22,.int .i64 (n:Int)),(23,.int .i64 (i:Int))]) ?_ (fun key=>?_)
   rotate_left
   · cases bc
     · have h0:=ML (xs:=limbs b) (j:=i) (by rw [decide_eq_false_iff_not] at hbc;omega)
       repeat refine Pl.aG ?_
       refine Pl.gX rfl ?_
       repeat refine Pl.aG ?_
       refine Pl.iT ?_
       refine Pl.lM [(0,.slice Aa (limbs a).length ca),(1,.int .u64 (p:Int)),(2,.slice Ab (limbs b).length cb),(3,.int .u64 (q:Int)),(9,.slice (some ⟨N,0,none⟩) n n),(10,.int .u64 ((up+p*lb (limbs a) i:Nat):Int)),(11,.int .u64 ((dn:Nat):Int)),(12,.int .u32 ((bo:Nat):Int)),(13,.int .i64 (i:Int)),(22,.int .i64 (n:Int)),(23,.int .i64 (i:Int))] (Pl.aj rfl (Pl.aj rfl (Pl.aj rfl (Pl.aj rfl (Pl.aj rfl (Pl.aj rfl (Pl.aj rfl (Pl.aj rfl (Pl.aj rfl (Pl.aj rfl (Pl.aj rfl Pl.dQ))))))))))) ?_
       have hz:dn+q*lb (limbs b) i=dn:=by rw [h0];omega
       exact key _ _ ⟨rfl,by rw [hz]⟩
     · have hlt:i<(limbs b).length:=by rw [decide_eq_true_iff] at hbc;omega
       obtain ⟨pl,hi1,hl1⟩:=U.at (Un.below hb hE) hlt
       repeat refine Pl.aG ?_
       refine Pl.jV rfl ?_
       refine Pl.aab rfl ?_
       refine Pl.jB trivial rfl ?_
       refine qg trivial rfl rfl rfl rfl rfl rfl (hi1) ?_
       refine Pl.aY trivial rfl rfl rfl rfl rfl (hl1 _ (Ext.refl _)) ?_
       refine nG (v:=.int .u64 ((lb (limbs b) i:Nat):Int)) trivial rfl rfl rfl rfl rfl (fun X=>rR hbi X) ?_
       refine Pl.bn (v:=.int .u64 ((q*lb (limbs b) i:Nat):Int)) trivial rfl rfl rfl rfl rfl rfl (fun X=>vS rfl (by omega) X) ?_
       refine Pl.bn (v:=.int .u64 ((dn+q*lb (limbs b) i:Nat):Int)) trivial rfl rfl rfl rfl rfl rfl (fun X=>qF rfl (by omega) X) ?_
       refine Pl.jB trivial rfl ?_
       refine Pl.aH ?_
       refine Pl.lM [(0,.slice Aa (limbs a).length ca),(1,.int .u64 (p:Int)),(2,.slice Ab (limbs b).length cb),(3,.int .u64 (q:Int)),(9,.slice (some ⟨N,0,none⟩) n n),(10,.int .u64 ((up+p*lb (limbs a) i:Nat):Int)),(11,.int .u64 ((dn+q*lb (limbs b) i:Nat):Int)),(12,.int .u32 ((bo:Nat):Int)),(13,.int .i64 (i:Int)),(22,.int .i64 (n:Int)),(23,.int .i64 (i:Int))] (Pl.aj rfl (Pl.aj rfl (Pl.aj rfl (Pl.aj rfl (Pl.aj rfl (Pl.aj rfl (Pl.aj rfl (Pl.aj rfl (Pl.aj rfl (Pl.aj rfl (Pl.aj rfl Pl.dQ))))))))))) ?_
       exact key _ _ ⟨rfl,rfl⟩
   rintro _ _ ⟨rfl,rfl⟩
   have hsd:=rT ((up+p*lb (limbs a) i)%4294967296) ((dn+q*lb (limbs b) i)%4294967296) bo
   have hsc:=yu ((up+p*lb (limbs a) i)%4294967296) ((dn+q*lb (limbs b) i)%4294967296) bo
   refine Pl.aab rfl ?_
   refine Pl.jB trivial rfl ?_
   refine nG (v:=.int .u32 (((up+p*lb (limbs a) i)%4294967296:Nat):Int)) trivial rfl rfl rfl rfl rfl (fun X=>F9 X) ?_
   refine Pl.jB trivial rfl ?_
   refine nG (v:=.int .u32 (((dn+q*lb (limbs b) i)%4294967296:Nat):Int)) trivial rfl rfl rfl rfl rfl (fun X=>F9 X) ?_
   refine Pl.jB trivial rfl ?_
   refine Pl.bX rfl rfl rfl rfl rfl (Pl.en Tryz.func184) ?_
   refine Calls.mono (Aj _ _ _ _ (Nat.mod_lt _ (by decide)) (Nat.mod_lt _ (by decide)) PO) ?_
   rintro e _ ⟨rfl,rfl⟩
   refine ⟨_,rfl,trivial,?_⟩
   refine Pl.jB trivial rfl ?_
   refine qg trivial rfl rfl rfl rfl rfl rfl (acF N n n i hin) ?_
   refine Pl.eu rfl rfl rfl rfl rfl rfl (Cb.R7 hC (by omega) (nS ((up+p*lb (limbs a) i)%4294967296) ((dn+q*lb (limbs b) i)%4294967296) bo)) trivial ?_
   have hC2:=Cb.acG hC i (nS ((up+p*lb (limbs a) i)%4294967296) ((dn+q*lb (limbs b) i)%4294967296) bo)
   have hE2:=Ext.R8 hE (N:=N) (j:=i) hN (.int .u32 (((nS ((up+p*lb (limbs a) i)%4294967296) ((dn+q*lb (limbs b) i)%4294967296) bo):Nat):Int))
   generalize W.setCell ⟨N,i,none⟩ (.int .u32 (((nS ((up+p*lb (limbs a) i)%4294967296) ((dn+q*lb (limbs b) i)%4294967296) bo):Nat):Int))=W2 at *
   refine Pl.jB trivial rfl ?_
   refine Pl.aH ?_
   refine Pl.aab rfl ?_
   refine Pl.jB trivial rfl ?_
   refine Pl.bn (v:=.int .u64 (((up+p*lb (limbs a) i)/4294967296:Nat):Int)) trivial rfl rfl rfl rfl rfl rfl (fun X=>yt rfl (by omega) X) ?_
   refine Pl.jB trivial rfl ?_
   refine Pl.bn (v:=.int .u64 (((dn+q*lb (limbs b) i)/4294967296:Nat):Int)) trivial rfl rfl rfl rfl rfl rfl (fun X=>yt rfl (by omega) X) ?_
   refine Pl.jB trivial rfl ?_
   refine Pl.aH ?_
   refine Pl.iU ?_
   refine Pl.aab rfl ?_
   refine Pl.bn (v:=.int .i64 ((i+1:Nat):Int)) trivial rfl rfl rfl rfl rfl rfl (fun X=>CL (by omega) (by omega) (by omega) X) ?_
   refine Pl.jB trivial rfl ?_
   refine Pl.aH ?_
   exact Pl.nD [(0,.slice Aa (limbs a).length ca),(1,.int .u64 (p:Int)),(2,.slice Ab (limbs b).length cb),(3,.int .u64 (q:Int)),(9,.slice (some ⟨N,0,none⟩) n n),(10,.int .u64 (((up+p*lb (limbs a) i)/4294967296:Nat):Int)),(11,.int .u64 (((dn+q*lb (limbs b) i)/4294967296:Nat):Int)),(12,.int .u32 (((qJ ((up+p*lb (limbs a) i)%4294967296) ((dn+q*lb (limbs b) i)%4294967296) bo):Nat):Int)),(22,.int .i64 (n:Int)),(23,.int .i64 (((i+1:Nat):Int):Int))] (Pl.aj rfl (Pl.aj rfl (Pl.aj rfl (Pl.aj rfl (Pl.aj rfl (Pl.aj rfl (Pl.aj rfl (Pl.aj rfl (Pl.aj rfl (Pl.aj rfl Pl.dQ)))))))))) (show n-(i+1)<n-i by omega) ⟨i+1,o.set i (nS ((up+p*lb (limbs a) i)%4294967296) ((dn+q*lb (limbs b) i)%4294967296) bo),_,_,_,rfl,by omega,by simp [hlo],hC2,hE2,KU ho hlo hin PO hup hdn hJ Zj hJd hp hq hai hbi,rfl⟩
 · refine Pl.aab rfl ?_
   refine Pl.bn (v:=.bool false) trivial rfl rfl rfl rfl rfl rfl (fun X=>vR (decide_eq_false (by omega)) X) ?_
   refine Pl.aH ?_
   repeat refine Pl.aG ?_
   refine Pl.gX rfl ?_
   repeat refine Pl.aG ?_
   refine Pl.tO ?_
   obtain rfl:i=n:=by omega
   have hv:=OO ho hlo PO hJ Zj hJd hp hba (dU (show (limbs a).length≤i-1 by omega)) (dU (show (limbs b).length≤i by omega)) (by omega)
   have hu:=Cb.row hC ho (by omega)
   rw [hlo] at hu
   refine Pl.aab rfl ?_
   refine Pl.jB trivial rfl ?_
   refine Pl.bX rfl rfl rfl rfl rfl (Pl.en Tryz.func92) ?_
   refine Calls.mono (yV _ _ _ hu _ hv) ?_
   rintro e W2 ⟨z,rfl,hz,hB2⟩
   refine ⟨_,rfl,trivial,?_⟩
   refine Pl.jB trivial rfl ?_
   refine Pl.aH ?_
   exact Pl.iV rfl rfl ⟨z,rfl,hz,hE.below hB2⟩
theorem CY (w:World) (va vb:Value) (a b p q:Nat) (ha:Un w va a) (hb:Un w vb b) (hla:Sn a 900000) (hlb:Sn b 900000) (hp:p<4294967296) (hq:q<4294967296) :
  Calls Tryz.prog 238 #[va,.int .u64 (p:Int),vb,.int .u64 (q:Int)] w fun e w'=>∃ z,e = .returned z∧Un w' z (p*a+q*b)∧Ext w w':=by
 obtain ⟨Aa,ca,rfl,-⟩:=Un.sh ha
 obtain ⟨Ab,cb,rfl,-⟩:=Un.sh hb
 obtain ⟨n,hn,hna,hnb⟩:∃ n:Nat,(if ((limbs b).length:Int)>((limbs a).length:Int) then ((limbs b).length:Int) else ((limbs a).length:Int))+2=(n:Int)∧(limbs a).length+2≤n∧(limbs b).length+2≤n:=by
  by_cases hc:((limbs b).length:Int)>((limbs a).length:Int)
  · rw [if_pos hc];exact ⟨(limbs b).length+2,by omega,by omega,by omega⟩
  · rw [if_neg hc];exact ⟨(limbs a).length+2,by omega,by omega,by omega⟩
 have hn1:n≤1000000:=by unfold Sn at hla hlb;split at hn<;>omega
 have hxa:=kH a
 have hxb:=kH b
 refine Pl.dF (n:=85) (vs:=[.slice Aa (limbs a).length ca,.int .u64 (p:Int),.slice Ab (limbs b).length cb,.int .u64 (q:Int)]) Tryz.func238 rfl (by kernel_rfl) (by simp) ?_
 refine Pl.aab rfl ?_
 refine Pl.jB trivial rfl ?_
 refine Pl.aH ?_
 refine Pl.aab rfl ?_
 refine Pl.jB trivial rfl ?_
 refine iY trivial rfl rfl rfl rfl rfl ?_
 refine Pl.jB trivial rfl ?_
 refine iY trivial rfl rfl rfl rfl rfl ?_
 refine R6 trivial rfl rfl rfl rfl rfl rfl ?_
 refine Pl.bn (v:=.int .i64 (n:Int)) trivial rfl rfl rfl rfl rfl rfl (fun X=>CL hn (by omega) (by omega) X) ?_
 refine Xp rfl rfl rfl rfl rfl rfl rfl (by omega) (fun _ _=>trivial) ?_
 intro N w1 hB1 hN hC0
 refine Pl.jB trivial rfl ?_
 refine Pl.aH ?_
 refine Pl.aab rfl ?_
 refine Pl.jB trivial rfl ?_
 refine Pl.aH ?_
 refine Pl.aab rfl ?_
 refine Pl.jB trivial rfl ?_
 refine iY trivial rfl rfl rfl rfl rfl ?_
 refine Pl.jB trivial rfl ?_
 refine Pl.aH ?_
 refine Pl.lM [(0,.slice Aa (limbs a).length ca),(1,.int .u64 (p:Int)),(2,.slice Ab (limbs b).length cb),(3,.int .u64 (q:Int)),(9,.slice (some ⟨N,0,none⟩) n n),(10,.int .u64 ((0:Nat):Int)),(21,.int .i64 (n:Int)),(22,.int .i64 (((0:Nat):Int):Int))] (Pl.aj rfl (Pl.aj rfl (Pl.aj rfl (Pl.aj rfl (Pl.aj rfl (Pl.aj rfl (Pl.aj rfl (Pl.aj rfl Pl.dQ)))))))) ?_
 repeat refine Pl.aG ?_
 refine Pl.ko ?_
 repeat refine Pl.aG ?_
 refine Pl.tN (fun m l' w'=>∃ (i:Nat) (o:List Nat) (cy:Nat),m=n-i∧i≤n∧o.length=n∧Cb w' N 57 (cu o)∧Ext w w'∧((∀ x∈o,x<4294967296)∧cy<17179869184∧val (o.take i)+cy*4294967296^i=p*(a%4294967296^i)+q*(b%4294967296^i))∧l'=[(0,.slice Aa (limbs a).length ca),(1,.int .u64 (p:Int)),(2,.slice Ab (limbs b).length cb),(3,.int .u64 (q:Int)),(9,.slice (some ⟨N,0,none⟩) n n),(10,.int .u64 ((cy:Nat):Int)),(21,.int .i64 (n:Int)),(22,.int .i64 (i:Int))]) n ⟨0,List.replicate n 0,0,rfl,Nat.zero_le _,by simp,hC0,hB1,⟨fun x hx=>by rw [List.mem_replicate] at hx;omega,by omega,by simp [val,Nat.mod_one]⟩,rfl⟩ ?_
 rintro m _ W ⟨i,o,cy,rfl,hi,hlo,hC,hE,⟨ho,hcy,hJ⟩,rfl⟩
 by_cases hin:i<n
 · refine Pl.aab rfl ?_
   refine Pl.bn (v:=.bool true) trivial rfl rfl rfl rfl rfl rfl (fun X=>vR (decide_eq_true (by omega)) X) ?_
   refine Pl.aH ?_
   repeat refine Pl.aG ?_
   refine Pl.jV rfl ?_
   repeat refine Pl.aG ?_
   refine Pl.iT ?_
   repeat refine Pl.aG ?_
   refine Pl.ko ?_
   have hai:=dz hxa i
   have hbi:=dz hxb i
   refine Pl.aab rfl ?_
   refine Pl.jB trivial rfl ?_
   refine Pl.aH ?_
   have hpa:p*lb (limbs a) i≤4294967295*4294967295:=Nat.mul_le_mul (by omega) (by omega)
   have ND:q*lb (limbs b) i≤4294967295*4294967295:=Nat.mul_le_mul (by omega) (by omega)
   refine Pl.aab rfl ?_
   refine Pl.jB trivial rfl ?_
   refine Pl.aH ?_
   obtain ⟨bc,hbc⟩:∃ bc,decide ((i:Int)<((limbs a).length:Int))=bc:=⟨_,rfl⟩
   refine Pl.aab rfl ?_
   refine Pl.jB trivial rfl ?_
   refine iY trivial rfl rfl rfl rfl rfl ?_
   refine Pl.bn (v:=.bool bc) trivial rfl rfl rfl rfl rfl rfl (fun X=>vR hbc X) ?_
   refine Pl.aH ?_
   repeat refine Pl.aG ?_
   refine Pl.Cx (fun l' w'=>W=w'∧l'=[(0,.slice Aa (limbs a).length ca),(1,.int .u64 (p:Int)),(2,.slice Ab (limbs b).length cb),(3,.int .u64 (q:Int)),(9,.slice (some ⟨N,0,none⟩) n n),(10,.int .u64 ((cy+p*lb (limbs a) i%4294967296:Nat):Int)),(11,.int .i64 (i:Int)),(12,.int .u64 ((0+p*lb (limbs a) i/4294967296:Nat):Int)),(21,.int .i64 (n:Int)),(22,.int .i64 (i:Int))]) ?_ (fun key=>?_)
   rotate_left
   · cases bc
     · have h0:=ML (xs:=limbs a) (j:=i) (by rw [decide_eq_false_iff_not] at hbc;omega)
       repeat refine Pl.aG ?_
       refine Pl.gX rfl ?_
       repeat refine Pl.aG ?_
       refine Pl.iT ?_
       refine Pl.lM [(0,.slice Aa (limbs a).length ca),(1,.int .u64 (p:Int)),(2,.slice Ab (limbs b).length cb),(3,.int .u64 (q:Int)),(9,.slice (some ⟨N,0,none⟩) n n),(10,.int .u64 ((cy:Nat):Int)),(11,.int .i64 (i:Int)),(12,.int .u64 ((0:Nat):Int)),(21,.int .i64 (n:Int)),(22,.int .i64 (i:Int))] (Pl.aj rfl (Pl.aj rfl (Pl.aj rfl (Pl.aj rfl (Pl.aj rfl (Pl.aj rfl (Pl.aj rfl (Pl.aj rfl (Pl.aj rfl (Pl.aj rfl Pl.dQ)))))))))) ?_
       have hz:cy+p*lb (limbs a) i%4294967296=cy:=by simp only [h0,Nat.mul_zero,Nat.zero_mod,Nat.add_zero]
       have hz2:0+p*lb (limbs a) i/4294967296=0:=by simp only [h0,Nat.mul_zero,Nat.zero_div,Nat.add_zero]
       exact key _ _ ⟨rfl,by rw [hz,hz2]⟩
     · have hlt:i<(limbs a).length:=by rw [decide_eq_true_iff] at hbc;omega
       obtain ⟨pl,hi1,hl1⟩:=U.at (Un.below ha hE) hlt
       repeat refine Pl.aG ?_
       refine Pl.jV rfl ?_
       refine Pl.aab rfl ?_
       refine Pl.jB trivial rfl ?_
       refine qg trivial rfl rfl rfl rfl rfl rfl (hi1) ?_
       refine Pl.aY trivial rfl rfl rfl rfl rfl (hl1 _ (Ext.refl _)) ?_
       refine nG (v:=.int .u64 ((lb (limbs a) i:Nat):Int)) trivial rfl rfl rfl rfl rfl (fun X=>rR hai X) ?_
       refine Pl.bn (v:=.int .u64 ((p*lb (limbs a) i:Nat):Int)) trivial rfl rfl rfl rfl rfl rfl (fun X=>vS rfl (by omega) X) ?_
       refine Pl.bn (v:=.int .u64 ((p*lb (limbs a) i%4294967296:Nat):Int)) trivial rfl rfl rfl rfl rfl rfl (fun X=>MM rfl (by omega) X) ?_
       refine Pl.bn (v:=.int .u64 ((cy+p*lb (limbs a) i%4294967296:Nat):Int)) trivial rfl rfl rfl rfl rfl rfl (fun X=>qF rfl (by omega) X) ?_
       refine Pl.jB trivial rfl ?_
       refine Pl.aH ?_
       refine Pl.aab rfl ?_
       refine Pl.jB trivial rfl ?_
       refine qg trivial rfl rfl rfl rfl rfl rfl (hi1) ?_
       refine Pl.aY trivial rfl rfl rfl rfl rfl (hl1 _ (Ext.refl _)) ?_
       refine nG (v:=.int .u64 ((lb (limbs a) i:Nat):Int)) trivial rfl rfl rfl rfl rfl (fun X=>rR hai X) ?_
       refine Pl.bn (v:=.int .u64 ((p*lb (limbs a) i:Nat):Int)) trivial rfl rfl rfl rfl rfl rfl (fun X=>vS rfl (by omega) X) ?_
       refine Pl.bn (v:=.int .u64 ((p*lb (limbs a) i/4294967296:Nat):Int)) trivial rfl rfl rfl rfl rfl rfl (fun X=>yt rfl (by omega) X) ?_
       refine Pl.bn (v:=.int .u64 ((0+p*lb (limbs a) i/4294967296:Nat):Int)) trivial rfl rfl rfl rfl rfl rfl (fun X=>qF (a:=0) rfl (by omega) X) ?_
       refine Pl.jB trivial rfl ?_
       refine Pl.aH ?_
       refine Pl.lM [(0,.slice Aa (limbs a).length ca),(1,.int .u64 (p:Int)),(2,.slice Ab (limbs b).length cb),(3,.int .u64 (q:Int)),(9,.slice (some ⟨N,0,none⟩) n n),(10,.int .u64 ((cy+p*lb (limbs a) i%4294967296:Nat):Int)),(11,.int .i64 (i:Int)),(12,.int .u64 ((0+p*lb (limbs a) i/4294967296:Nat):Int)),(21,.int .i64 (n:Int)),(22,.int .i64 (i:Int))] (Pl.aj rfl (Pl.aj rfl (Pl.aj rfl (Pl.aj rfl (Pl.aj rfl (Pl.aj rfl (Pl.aj rfl (Pl.aj rfl (Pl.aj rfl (Pl.aj rfl Pl.dQ)))))))))) ?_
       exact key _ _ ⟨rfl,rfl⟩
   rintro _ _ ⟨rfl,rfl⟩
   obtain ⟨bc,hbc⟩:∃ bc,decide ((i:Int)<((limbs b).length:Int))=bc:=⟨_,rfl⟩
   refine Pl.aab rfl ?_
   refine Pl.jB trivial rfl ?_
   refine iY trivial rfl rfl rfl rfl rfl ?_
   refine Pl.bn (v:=.bool bc) trivial rfl rfl rfl rfl rfl rfl (fun X=>vR hbc X) ?_
   refine Pl.aH ?_
   repeat refine Pl.aG ?_
   refine Pl.Cx (fun l' w'=>W=w'∧l'=[(0,.slice Aa (limbs a).length ca),(1,.int .u64 (p:Int)),(2,.slice Ab (limbs b).length cb),(3,.int .u64 (q:Int)),(9,.slice (some ⟨N,0,none⟩) n n),(10,.int .u64 ((cy+p*lb (limbs a) i%4294967296+q*lb (limbs b) i%4294967296:Nat):Int)),(11,.int .i64 (i:Int)),(12,.int .u64 ((0+p*lb (limbs a) i/4294967296+q*lb (limbs b) i/4294967296:Nat):Int)),(21,.int .i64 (n:Int)),(22,.int .i64 (i:Int))]) ?_ (fun key=>?_)
   rotate_left
   · cases bc
     · have h0:=ML (xs:=limbs b) (j:=i) (by rw [decide_eq_false_iff_not] at hbc;omega)
       repeat refine Pl.aG ?_
       refine Pl.gX rfl ?_
       repeat refine Pl.aG ?_
       refine Pl.iT ?_
       refine Pl.lM [(0,.slice Aa (limbs a).length ca),(1,.int .u64 (p:Int)),(2,.slice Ab (limbs b).length cb),(3,.int .u64 (q:Int)),(9,.slice (some ⟨N,0,none⟩) n n),(10,.int .u64 ((cy+p*lb (limbs a) i%4294967296:Nat):Int)),(11,.int .i64 (i:Int)),(12,.int .u64 ((0+p*lb (limbs a) i/4294967296:Nat):Int)),(21,.int .i64 (n:Int)),(22,.int .i64 (i:Int))] (Pl.aj rfl (Pl.aj rfl (Pl.aj rfl (Pl.aj rfl (Pl.aj rfl (Pl.aj rfl (Pl.aj rfl (Pl.aj rfl (Pl.aj rfl (Pl.aj rfl Pl.dQ)))))))))) ?_
       have hz:cy+p*lb (limbs a) i%4294967296+q*lb (limbs b) i%4294967296=cy+p*lb (limbs a) i%4294967296:=by simp only [h0,Nat.mul_zero,Nat.zero_mod,Nat.add_zero]
       have hz2:0+p*lb (limbs a) i/4294967296+q*lb (limbs b) i/4294967296=0+p*lb (limbs a) i/4294967296:=by simp only [h0,Nat.mul_zero,Nat.zero_div,Nat.add_zero]
       exact key _ _ ⟨rfl,by rw [hz,hz2]⟩
     · have hlt:i<(limbs b).length:=by rw [decide_eq_true_iff] at hbc;omega
       obtain ⟨pl,hi1,hl1⟩:=U.at (Un.below hb hE) hlt
       repeat refine Pl.aG ?_
       refine Pl.jV rfl ?_
       refine Pl.aab rfl ?_
       refine Pl.jB trivial rfl ?_
       refine qg trivial rfl rfl rfl rfl rfl rfl (hi1) ?_
       refine Pl.aY trivial rfl rfl rfl rfl rfl (hl1 _ (Ext.refl _)) ?_
       refine nG (v:=.int .u64 ((lb (limbs b) i:Nat):Int)) trivial rfl rfl rfl rfl rfl (fun X=>rR hbi X) ?_
       refine Pl.bn (v:=.int .u64 ((q*lb (limbs b) i:Nat):Int)) trivial rfl rfl rfl rfl rfl rfl (fun X=>vS rfl (by omega) X) ?_
       refine Pl.bn (v:=.int .u64 ((q*lb (limbs b) i%4294967296:Nat):Int)) trivial rfl rfl rfl rfl rfl rfl (fun X=>MM rfl (by omega) X) ?_
       refine Pl.bn (v:=.int .u64 ((cy+p*lb (limbs a) i%4294967296+q*lb (limbs b) i%4294967296:Nat):Int)) trivial rfl rfl rfl rfl rfl rfl (fun X=>qF rfl (by omega) X) ?_
       refine Pl.jB trivial rfl ?_
       refine Pl.aH ?_
       refine Pl.aab rfl ?_
       refine Pl.jB trivial rfl ?_
       refine qg trivial rfl rfl rfl rfl rfl rfl (hi1) ?_
       refine Pl.aY trivial rfl rfl rfl rfl rfl (hl1 _ (Ext.refl _)) ?_
       refine nG (v:=.int .u64 ((lb (limbs b) i:Nat):Int)) trivial rfl rfl rfl rfl rfl (fun X=>rR hbi X) ?_
       refine Pl.bn (v:=.int .u64 ((q*lb (limbs b) i:Nat):Int)) trivial rfl rfl rfl rfl rfl rfl (fun X=>vS rfl (by omega) X) ?_
       refine Pl.bn (v:=.int .u64 ((q*lb (limbs b) i/4294967296:Nat):Int)) trivial rfl rfl rfl rfl rfl rfl (fun X=>yt rfl (by omega) X) ?_
       refine Pl.bn (v:=.int .u64 ((0+p*lb (limbs a) i/4294967296+q*lb (limbs b) i/4294967296:Nat):Int)) trivial rfl rfl rfl rfl rfl rfl (fun X=>qF rfl (by omega) X) ?_
       refine Pl.jB trivial rfl ?_
       refine Pl.aH ?_
       refine Pl.lM [(0,.slice Aa (limbs a).length ca),(1,.int .u64 (p:Int)),(2,.slice Ab (limbs b).length cb),(3,.int .u64 (q:Int)),(9,.slice (some ⟨N,0,none⟩) n n),(10,.int .u64 ((cy+p*lb (limbs a) i%4294967296+q*lb (limbs b) i%4294967296:Nat):Int)),(11,.int .i64 (i:Int)),(12,.int .u64 ((0+p*lb (limbs a) i/4294967296+q*lb (limbs b) i/4294967296:Nat):Int)),(21,.int .i64 (n:Int)),(22,.int .i64 (i:Int))] (Pl.aj rfl (Pl.aj rfl (Pl.aj rfl (Pl.aj rfl (Pl.aj rfl (Pl.aj rfl (Pl.aj rfl (Pl.aj rfl (Pl.aj rfl (Pl.aj rfl Pl.dQ)))))))))) ?_
       exact key _ _ ⟨rfl,rfl⟩
   rintro _ _ ⟨rfl,rfl⟩
   refine Pl.aab rfl ?_
   refine Pl.jB trivial rfl ?_
   refine nG (v:=.int .u32 (((cy+p*lb (limbs a) i%4294967296+q*lb (limbs b) i%4294967296)%4294967296:Nat):Int)) trivial rfl rfl rfl rfl rfl (fun X=>F9 X) ?_
   refine qg trivial rfl rfl rfl rfl rfl rfl (acF N n n i hin) ?_
   refine Pl.eu rfl rfl rfl rfl rfl rfl (Cb.R7 hC (by omega) ((cy+p*lb (limbs a) i%4294967296+q*lb (limbs b) i%4294967296)%4294967296)) trivial ?_
   have hC2:=Cb.acG hC i ((cy+p*lb (limbs a) i%4294967296+q*lb (limbs b) i%4294967296)%4294967296)
   have hE2:=Ext.R8 hE (N:=N) (j:=i) hN (.int .u32 ((((cy+p*lb (limbs a) i%4294967296+q*lb (limbs b) i%4294967296)%4294967296):Nat):Int))
   generalize W.setCell ⟨N,i,none⟩ (.int .u32 ((((cy+p*lb (limbs a) i%4294967296+q*lb (limbs b) i%4294967296)%4294967296):Nat):Int))=W2 at *
   refine Pl.aH ?_
   refine Pl.aab rfl ?_
   refine Pl.jB trivial rfl ?_
   refine Pl.bn (v:=.int .u64 (((cy+p*lb (limbs a) i%4294967296+q*lb (limbs b) i%4294967296)/4294967296:Nat):Int)) trivial rfl rfl rfl rfl rfl rfl (fun X=>yt rfl (by omega) X) ?_
   refine Pl.jB trivial rfl ?_
   refine Pl.bn (v:=.int .u64 (((cy+p*lb (limbs a) i%4294967296+q*lb (limbs b) i%4294967296)/4294967296+(0+p*lb (limbs a) i/4294967296+q*lb (limbs b) i/4294967296):Nat):Int)) trivial rfl rfl rfl rfl rfl rfl (fun X=>qF rfl (by omega) X) ?_
   refine Pl.jB trivial rfl ?_
   refine Pl.aH ?_
   refine Pl.iU ?_
   refine Pl.aab rfl ?_
   refine Pl.bn (v:=.int .i64 ((i+1:Nat):Int)) trivial rfl rfl rfl rfl rfl rfl (fun X=>CL (by omega) (by omega) (by omega) X) ?_
   refine Pl.jB trivial rfl ?_
   refine Pl.aH ?_
   exact Pl.nD [(0,.slice Aa (limbs a).length ca),(1,.int .u64 (p:Int)),(2,.slice Ab (limbs b).length cb),(3,.int .u64 (q:Int)),(9,.slice (some ⟨N,0,none⟩) n n),(10,.int .u64 (((cy+p*lb (limbs a) i%4294967296+q*lb (limbs b) i%4294967296)/4294967296+(0+p*lb (limbs a) i/4294967296+q*lb (limbs b) i/4294967296):Nat):Int)),(21,.int .i64 (n:Int)),(22,.int .i64 (((i+1:Nat):Int):Int))] (Pl.aj rfl (Pl.aj rfl (Pl.aj rfl (Pl.aj rfl (Pl.aj rfl (Pl.aj rfl (Pl.aj rfl (Pl.aj rfl Pl.dQ)))))))) (show n-(i+1)<n-i by omega) ⟨i+1,o.set i ((cy+p*lb (limbs a) i%4294967296+q*lb (limbs b) i%4294967296)%4294967296),_,rfl,by omega,by simp [hlo],hC2,hE2,OP ho hlo hin hcy hJ hp hq hai hbi,rfl⟩
 · refine Pl.aab rfl ?_
   refine Pl.bn (v:=.bool false) trivial rfl rfl rfl rfl rfl rfl (fun X=>vR (decide_eq_false (by omega)) X) ?_
   refine Pl.aH ?_
   repeat refine Pl.aG ?_
   refine Pl.gX rfl ?_
   repeat refine Pl.aG ?_
   refine Pl.tO ?_
   obtain rfl:i=n:=by omega
   have hv:=R9 ho hlo hJ hp hq (dU (show (limbs a).length≤i-2 by omega)) (dU (show (limbs b).length≤i-2 by omega)) (by omega)
   have hu:=Cb.row hC ho (by omega)
   rw [hlo] at hu
   refine Pl.aab rfl ?_
   refine Pl.jB trivial rfl ?_
   refine Pl.bX rfl rfl rfl rfl rfl (Pl.en Tryz.func92) ?_
   refine Calls.mono (yV _ _ _ hu _ hv) ?_
   rintro e W2 ⟨z,rfl,hz,hB2⟩
   refine ⟨_,rfl,trivial,?_⟩
   refine Pl.jB trivial rfl ?_
   refine Pl.aH ?_
   exact Pl.iV rfl rfl ⟨z,rfl,hz,hE.below hB2⟩
end Go.Proofs.YtgcieamfidoaoaaGreatDoor
