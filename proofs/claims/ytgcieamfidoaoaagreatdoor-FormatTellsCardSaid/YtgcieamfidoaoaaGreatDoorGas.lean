/- Base. -/
import Derived.Test.YtgcieamfidoaoaaGreatDoorGar
set_option linter.all false
set_option maxHeartbeats 8000000
namespace Go.Proofs.YtgcieamfidoaoaaGreatDoor
open Go.Proofs.Tryz
open Go.RowKit
section
set_option maxRecDepth 100000
theorem NM (w:World) (v:Value) (xs:List Nat) (k:Nat) (h:U w v xs) :Calls prog 90 #[v,.int .i64 (k:Int)] w fun e w'=>e = .returned (.int .u64 (lb xs k:Nat))∧w=w':=by
 obtain ⟨A,c,rfl,⟨hc,hm⟩,hx,hr⟩:=h;have hkn:decide (((k:Nat):Int)<0)=false:=by rw [decide_eq_false_iff_not];omega
 by_cases h1:k<xs.length
 · obtain ⟨ad,rfl,hb,hcell⟩:=hr (by omega);have hc1:=hcell k h1;have hL:=fD hx k;have hw:IntKind.u64.wrap ((lb xs k:Nat):Int)=((lb xs k:Nat):Int):=(by rw [IntKind.wrap_u64];omega);go_enter func90,ntmps90;go_wp2;go_ret;exact ⟨by first | rfl | rw [hw],rfl⟩
 · have HF:Hid (lb xs k=0):=qV (by omega);have hd:decide ((xs.length:Int)≤(k:Int))=true:=(by rw [decide_eq_true_iff];omega);go_enter func90,ntmps90;go_wp2;go_ret;exact ⟨by rw [HF.out];rfl,rfl⟩
theorem PO (w:World) (v:Value) (n:Nat) (i:Int) (hi0 : -9000000000000≤i) (hi1:i≤9000000000000) (h:Un w v n) :Calls prog 37 #[v,.int .i64 i] w fun e w'=>e = .returned (.int .u32 (rY n i:Nat))∧w=w':=by
 obtain ⟨A,c,rfl,⟨hc,hm⟩,hx,hr⟩:=h;by_cases h0:i<0
 · have HF:Hid (rY n i=0):=if_pos h0;go_enter func37,ntmps37;go_wp2;go_ret;exact ⟨by rw [HF.out];rfl,rfl⟩
 · obtain ⟨k,rfl⟩:=Int.eq_ofNat_of_zero_le (show 0≤i by omega);have hkn:decide (((k:Nat):Int)<0)=false:=(by rw [decide_eq_false_iff_not];omega);have HB:Hid (rY n (k:Int)=n/2^k%2):=(by rw [Hid,rY,if_neg h0,Int.toNat_natCast]);by_cases h1:k/32<(limbs n).length
   · obtain ⟨ad,rfl,hb,hcell⟩:=hr (by omega);have hc1:=hcell (k/32) h1;have HL:=Lib.hid (fD hx (k/32));have HF:Hid (rY n (k:Int)=lb (limbs n) (k/32)/2^(k%32)%2):=(by rw [Hid,HB.out,Hl n k]);clear HB;go_enter func37,ntmps37;go_wp2_with (fail);go_loop [5,6] (fun x j=>∃ m:Nat,m≤k%32∧j = .int .i64 m∧x = .int .u32 (lb (limbs n) (k/32)/2^m:Nat)) (fun x j=>k%32-(intOf j).toNat);case atStart=>exact ⟨0,Nat.zero_le _,rfl,by simp⟩
     case round =>
      obtain ⟨m,hm2,rfl,rfl⟩:=hrel;have hq:lb (limbs n) (k/32)/2^m<4294967296:=Nat.lt_of_le_of_lt (Nat.div_le_self _ _) HL.out;by_cases hlt:m<k%32
      · have HN:Hid (((lb (limbs n) (k/32)/2^m:Nat):Int)/2=((lb (limbs n) (k/32)/2^(m+1):Nat):Int)):=(by rw [Hid,Nat.pow_succ,← Nat.div_div_eq_div_mul];omega);generalize lb (limbs n) (k/32)/2^m=X at *;go_wp2;go_round;case rel=>exact ⟨m+1,by omega,by go_num,by rw [HN.out]⟩
        case measure=>simp [intOf];omega
      · obtain rfl:m=k%32:=(by omega);generalize lb (limbs n) (k/32)/2^(k%32)=X at *;go_wp2;go_ret;exact ⟨by rw [HF.out];rfl,rfl⟩
   · have HF:Hid (rY n (k:Int)=0):=(by rw [Hid,HB.out];exact Rt n k (by omega));go_enter func37,ntmps37;go_wp2;go_ret;exact ⟨by rw [HF.out];rfl,rfl⟩
theorem NN {t j:Nat} (h0:t/2^j=0) (h1:0<j→t/2^(j-1)≠0):dI t=j:=by
 have a:t<2^j:=by
  rcases Nat.lt_or_ge t (2^j) with h | h
  · exact h
  · have:=Nat.div_pos h (Nat.two_pow_pos j);omega
 rcases Nat.eq_zero_or_pos j with rfl | hj
 · have:t=0:=(by simpa using a);subst this;rfl
 · have b:2^(j-1)≤t:=by
    rcases Nat.lt_or_ge t (2^(j-1)) with h | h
    · exact absurd (Nat.div_eq_of_lt h) (h1 hj)
    · exact h
   have:=ZY b (by rwa [show j-1+1=j by omega]);omega
theorem NP (w:World) (v:Value) (n:Nat) (h:Un w v n) (hl:(limbs n).length≤1000000000) :Calls prog 131 #[v] w fun e w'=>e = .returned (.int .i64 (dI n:Nat))∧∃ m,w'=w.drewN m:=by
 obtain ⟨A,c,rfl,⟨hc,hm⟩,hx,hr⟩:=h;by_cases h0:n=0
 · subst h0;have hz:limbs 0=[]:=bF;rw [hz];clear hz hr hx hm hl hc;have HF:Hid (dI 0=0):=rfl;go_enter func131,ntmps131;go_wp2;go_ret;exact ⟨by rw [HF.out];rfl,0,rfl⟩
 · have HF:=Lib.hid (zC n h0);have hlen:0<(limbs n).length:=(by rw [iG h0];simp);obtain ⟨ad,rfl,hb,hcell⟩:=hr hlen;have hc1:=hcell ((limbs n).length-1) (by omega);have hne:(((limbs n).length:Int)==0)=false:=(by rw [beq_eq_false_iff_ne];omega);have hL:=fD hx ((limbs n).length-1);have HL:=Lib.hid hL;clear hL;go_enter func131,ntmps131;go_wp2_with (fail);go_region;go_wp2_with (fail);clear hc1 hcell hr;generalize ht:lb (limbs n) ((limbs n).length-1)=T at *;clear ht;go_loop [3,4] (fun m x=>∃ j:Nat,j≤32∧m = .int .i64 j∧x = .int .u32 (T/2^j:Nat)∧Hid (0<j→T/2^(j-1)≠0)) (fun m x=>33-(intOf m).toNat);case atStart=>exact ⟨0,Nat.zero_le _,rfl,by simp,fun h=>absurd h (by omega)⟩
   case round =>
    obtain ⟨j,hj,rfl,rfl,HZ⟩:=hrel;have hq:T/2^j<4294967296:=Nat.lt_of_le_of_lt (Nat.div_le_self _ _) HL.out;have HN:Hid (((T/2^j:Nat):Int)/2=((T/2^(j+1):Nat):Int)):=(by rw [Hid,Nat.pow_succ,← Nat.div_div_eq_div_mul];omega);rcases Nat.eq_zero_or_pos (T/2^j) with h0 | h0
    · have HT:Hid (dI T=j):=NN h0 HZ.out;rw [h0];clear h0 hq HN;go_wp2;go_ret;exact ⟨by rw [HF.out,HT.out];exact pz (by omega),1,rfl⟩
    · have HP:Hid (T/2^j≠0):=by rw [Hid];omega
      have HJ:Hid (j<32):=by
       rw [Hid];rcases Nat.lt_or_ge j 32 with h | h
       · exact h
       · have:=Nat.pow_le_pow_right (n:=2) (by decide) h;have h2:=HL.out;exact absurd (Nat.div_eq_of_lt (Nat.lt_of_lt_of_le (by simpa using h2) this)) HP.out
      have HP':Hid (T/2^j≠0):=HP;obtain ⟨X,hX⟩:∃ X,T/2^j=X:=⟨_,rfl⟩;rw [hX] at HN HP hq h0;rw [hX];clear hX;go_wp2;go_round;case rel=>exact ⟨j+1,by have:=HJ.out;omega,by go_num,by rw [HN.out],fun _=>by rw [Nat.add_sub_cancel];exact HP'.out⟩
      case measure=>have:=HJ.out;simp [intOf];omega
end
section
set_option maxRecDepth 100000
theorem eZ (w:World) (v:Value) (xs:List Nat) (i:Int) (k:Nat) (hi:i=(k:Int)) (h:U w v xs) :Calls prog 90 #[v,.int .i64 i] w fun e w'=>e = .returned (.int .u64 (lb xs k:Nat))∧w=w':=by subst hi;exact NM w v xs k h
theorem sU (xs:List Nat) (k:Nat) (h:k<xs.length):val (xs.drop k)=lb xs k+4294967296*val (xs.drop (k+1)):=by
 rw [List.drop_eq_getElem_cons h];have:lb xs k=xs[k]:=by simp [lb,h]
 rw [this];rfl
theorem EA {xs ys:List Nat} (hx:∀ x∈xs,x<4294967296) (hy:∀ x∈ys,x<4294967296) (p L:Nat) (h1:xs.length≤L) (h2:ys.length≤L) (hp:p<L) (ht:∀ j,p<j→j<L→lb xs j=lb ys j) (hlt:lb xs p<lb ys p):val xs<val ys:=by
 rw [← rV xs L h1,← rV ys L h2];have e:∀ (zs:List Nat) j,j<L→lb ((List.range L).map fun j=>lb zs j) j=lb zs j:=fun zs j hj=>by simp [lb,hj]
 refine tH (by simp) ?_ ?_ p (by simp;exact hp) ?_ ?_
 · intro x hx';obtain ⟨j,_,rfl⟩:=List.mem_map.1 hx';exact fD hx j
 · intro x hx';obtain ⟨j,_,rfl⟩:=List.mem_map.1 hx';exact fD hy j
 · intro j h3 h4;simp at h4;rw [e xs j h4,e ys j h4];exact ht j h3 h4
 · rw [e xs p hp,e ys p hp];exact hlt
theorem BU {xs ys:List Nat} (L:Nat) (h1:xs.length≤L) (h2:ys.length≤L) (ht:∀ j,j<L→lb xs j=lb ys j):val xs=val ys:=by rw [← rV xs L h1,← rV ys L h2];congr 1;apply List.map_congr_left;intro j hj;exact ht j (by simpa using hj)
theorem qX (w:World) (v u:Value) (xs ys:List Nat) (h:U w v xs) (g:U w u ys) (hl:xs.length≤1000000000) (hl2:ys.length≤1000000000) :Calls prog 47 #[v,u] w fun e w'=>e = .returned (.int .i64 (dA (val xs:Nat) (val ys:Nat)))∧w=w':=by
 obtain ⟨A,c,rfl,⟨hc,hm⟩,hx,hr⟩:=id h;obtain ⟨A2,c2,rfl,⟨hc2,hm2⟩,hx2,hr2⟩:=id g;rcases Nat.lt_or_ge xs.length ys.length with hlen | hlen
 · have HL1:Hid (xs.length≤ys.length):=(by rw [Hid];omega);have HL2:Hid (ys.length≤ys.length):=(by rw [Hid];omega);go_enter func47,ntmps47;go_wp2_with (fail);go_loop [5] (fun i=>∃ k:Nat,k≤ys.length∧i = .int .i64 ((k:Int)-1)∧Hid (∀ j,k≤j→j<ys.length→lb xs j=lb ys j)) (fun i=>(intOf i+1).toNat);case atStart=>exact ⟨ys.length,Nat.le_refl _,rfl,fun j h1 h2=>by omega⟩
   case round =>
    obtain ⟨k,hk,rfl,HE⟩:=hrel;rcases Nat.eq_zero_or_pos k with rfl | h0
    · have HF:Hid (dA (val xs:Nat) (val ys:Nat)=0):=(by rw [Hid,BU (ys.length) HL1.out HL2.out (fun j hj=>HE.out j (Nat.zero_le _) hj)];exact qD _);go_wp2;go_ret;exact ⟨by rw [HF.out];rfl,rfl⟩
    · rcases Nat.lt_trichotomy (lb xs (k-1)) (lb ys (k-1)) with hc1 | hc1 | hc1
      · have HF:Hid (dA (val xs:Nat) (val ys:Nat) = -1):=lU (Int.ofNat_lt.2 (EA hx hx2 (k-1) (ys.length) HL1.out HL2.out (by omega) (fun j h1 h2=>HE.out j (by omega) h2) hc1));have hd:decide (((lb xs (k-1):Nat):Int)<((lb ys (k-1):Nat):Int))=true:=(by rw [decide_eq_true_iff];omega);go_wp2_with (fail);refine (eZ _ _ xs _ (k-1) (by omega) h).mono ?_;rintro e w' ⟨rfl,rfl⟩;go_wp2_with (fail);refine (eZ _ _ ys _ (k-1) (by omega) g).mono ?_;rintro e w' ⟨rfl,rfl⟩;go_wp2_with (fail);go_ret;exact ⟨by rw [HF.out];rfl,rfl⟩
      · have hd:decide (((lb xs (k-1):Nat):Int)<((lb ys (k-1):Nat):Int))=false:=(by rw [decide_eq_false_iff_not];omega);have hd2:decide (((lb ys (k-1):Nat):Int)<((lb xs (k-1):Nat):Int))=false:=(by rw [decide_eq_false_iff_not];omega);have HC:=Lib.hid hc1;have hle1:¬ lb xs (k-1)<lb ys (k-1):=(by omega);have hle2:¬ lb ys (k-1)<lb xs (k-1):=(by omega);clear hc1;go_wp2_with (fail);refine (eZ _ _ xs _ (k-1) (by omega) h).mono ?_;rintro e w' ⟨rfl,rfl⟩;go_wp2_with (fail);refine (eZ _ _ ys _ (k-1) (by omega) g).mono ?_;rintro e w' ⟨rfl,rfl⟩;go_wp2_with (fail);refine (eZ _ _ xs _ (k-1) (by omega) h).mono ?_;rintro e w' ⟨rfl,rfl⟩;go_wp2_with (fail);refine (eZ _ _ ys _ (k-1) (by omega) g).mono ?_;rintro e w' ⟨rfl,rfl⟩;go_wp2_with (fail);go_round
        case rel=>exact ⟨k-1,by omega,by go_num,fun j h1 h2=>by
         rcases Nat.lt_or_ge j k with h3 | h3
         · have ej:j=k-1:=(by omega);rw [ej];exact HC.out
         · exact HE.out j h3 h2⟩
        case measure=>simp [intOf];omega
      · have HF:Hid (dA (val xs:Nat) (val ys:Nat)=1):=mF (Int.ofNat_lt.2 (EA hx2 hx (k-1) (ys.length) HL2.out HL1.out (by omega) (fun j h1 h2=>by have:=HE.out j (by omega) h2;exact this.symm) hc1));have hd:decide (((lb xs (k-1):Nat):Int)<((lb ys (k-1):Nat):Int))=false:=(by rw [decide_eq_false_iff_not];omega);have hd2:decide (((lb ys (k-1):Nat):Int)<((lb xs (k-1):Nat):Int))=true:=(by rw [decide_eq_true_iff];omega);go_wp2_with (fail);refine (eZ _ _ xs _ (k-1) (by omega) h).mono ?_;rintro e w' ⟨rfl,rfl⟩;go_wp2_with (fail);refine (eZ _ _ ys _ (k-1) (by omega) g).mono ?_;rintro e w' ⟨rfl,rfl⟩;go_wp2_with (fail);refine (eZ _ _ xs _ (k-1) (by omega) h).mono ?_;rintro e w' ⟨rfl,rfl⟩;go_wp2_with (fail);refine (eZ _ _ ys _ (k-1) (by omega) g).mono ?_;rintro e w' ⟨rfl,rfl⟩;go_wp2_with (fail);go_ret;exact ⟨by rw [HF.out];rfl,rfl⟩
 · have HL1:Hid (xs.length≤xs.length):=(by rw [Hid];omega);have HL2:Hid (ys.length≤xs.length):=(by rw [Hid];omega);go_enter func47,ntmps47;go_wp2_with (fail);go_loop [5] (fun i=>∃ k:Nat,k≤xs.length∧i = .int .i64 ((k:Int)-1)∧Hid (∀ j,k≤j→j<xs.length→lb xs j=lb ys j)) (fun i=>(intOf i+1).toNat);case atStart=>exact ⟨xs.length,Nat.le_refl _,rfl,fun j h1 h2=>by omega⟩
   case round =>
    obtain ⟨k,hk,rfl,HE⟩:=hrel;rcases Nat.eq_zero_or_pos k with rfl | h0
    · have HF:Hid (dA (val xs:Nat) (val ys:Nat)=0):=(by rw [Hid,BU (xs.length) HL1.out HL2.out (fun j hj=>HE.out j (Nat.zero_le _) hj)];exact qD _);go_wp2;go_ret;exact ⟨by rw [HF.out];rfl,rfl⟩
    · rcases Nat.lt_trichotomy (lb xs (k-1)) (lb ys (k-1)) with hc1 | hc1 | hc1
      · have HF:Hid (dA (val xs:Nat) (val ys:Nat) = -1):=lU (Int.ofNat_lt.2 (EA hx hx2 (k-1) (xs.length) HL1.out HL2.out (by omega) (fun j h1 h2=>HE.out j (by omega) h2) hc1));have hd:decide (((lb xs (k-1):Nat):Int)<((lb ys (k-1):Nat):Int))=true:=(by rw [decide_eq_true_iff];omega);go_wp2_with (fail);refine (eZ _ _ xs _ (k-1) (by omega) h).mono ?_;rintro e w' ⟨rfl,rfl⟩;go_wp2_with (fail);refine (eZ _ _ ys _ (k-1) (by omega) g).mono ?_;rintro e w' ⟨rfl,rfl⟩;go_wp2_with (fail);go_ret;exact ⟨by rw [HF.out];rfl,rfl⟩
      · have hd:decide (((lb xs (k-1):Nat):Int)<((lb ys (k-1):Nat):Int))=false:=(by rw [decide_eq_false_iff_not];omega);have hd2:decide (((lb ys (k-1):Nat):Int)<((lb xs (k-1):Nat):Int))=false:=(by rw [decide_eq_false_iff_not];omega);have HC:=Lib.hid hc1;have hle1:¬ lb xs (k-1)<lb ys (k-1):=(by omega);have hle2:¬ lb ys (k-1)<lb xs (k-1):=(by omega);clear hc1;go_wp2_with (fail);refine (eZ _ _ xs _ (k-1) (by omega) h).mono ?_;rintro e w' ⟨rfl,rfl⟩;go_wp2_with (fail);refine (eZ _ _ ys _ (k-1) (by omega) g).mono ?_;rintro e w' ⟨rfl,rfl⟩;go_wp2_with (fail);refine (eZ _ _ xs _ (k-1) (by omega) h).mono ?_;rintro e w' ⟨rfl,rfl⟩;go_wp2_with (fail);refine (eZ _ _ ys _ (k-1) (by omega) g).mono ?_;rintro e w' ⟨rfl,rfl⟩;go_wp2_with (fail);go_round
        case rel=>exact ⟨k-1,by omega,by go_num,fun j h1 h2=>by
         rcases Nat.lt_or_ge j k with h3 | h3
         · have ej:j=k-1:=(by omega);rw [ej];exact HC.out
         · exact HE.out j h3 h2⟩
        case measure=>simp [intOf];omega
      · have HF:Hid (dA (val xs:Nat) (val ys:Nat)=1):=mF (Int.ofNat_lt.2 (EA hx2 hx (k-1) (xs.length) HL2.out HL1.out (by omega) (fun j h1 h2=>by have:=HE.out j (by omega) h2;exact this.symm) hc1));have hd:decide (((lb xs (k-1):Nat):Int)<((lb ys (k-1):Nat):Int))=false:=(by rw [decide_eq_false_iff_not];omega);have hd2:decide (((lb ys (k-1):Nat):Int)<((lb xs (k-1):Nat):Int))=true:=(by rw [decide_eq_true_iff];omega);go_wp2_with (fail);refine (eZ _ _ xs _ (k-1) (by omega) h).mono ?_;rintro e w' ⟨rfl,rfl⟩;go_wp2_with (fail);refine (eZ _ _ ys _ (k-1) (by omega) g).mono ?_;rintro e w' ⟨rfl,rfl⟩;go_wp2_with (fail);refine (eZ _ _ xs _ (k-1) (by omega) h).mono ?_;rintro e w' ⟨rfl,rfl⟩;go_wp2_with (fail);refine (eZ _ _ ys _ (k-1) (by omega) g).mono ?_;rintro e w' ⟨rfl,rfl⟩;go_wp2_with (fail);go_ret;exact ⟨by rw [HF.out];rfl,rfl⟩
end
theorem RA (x y z:Nat) (hx:x<4294967296) (hy:y<4294967296) (hz:4294967296*y+x=z):bits .or .u64 ((4294967296*y:Nat):Int) (x:Int)=(z:Int):=by rw [u64_or_nat _ _ (by omega) (by omega),nat_join 32 _ x (Nat.mul_mod_right _ _) hx,hz]
theorem zW {k:Nat} (h:k<4294967296):IntKind.u32.wrap (k:Int)=(k:Int):=by rw [IntKind.wrap_u32];omega
theorem zX {k:Nat} (h:k<4294967296):(k:Int)%4294967296=(k:Int):=by omega
structure SmI (xs:List Nat) (m k:Nat) (o:List Nat) (r:Nat):Prop where
 len:o.length=xs.length
 lt:∀ x∈o,x<4294967296
 val:val (xs.drop k)=val (o.drop k)*m+r
 small:r<m
theorem SmI.step {xs:List Nat} {m k:Nat} {o:List Nat} {r:Nat} (h:SmI xs m (k+1) o r) (hk:k<xs.length) (x z q s:Nat) (hx:lb xs k=x) (hz:4294967296*r+x=z) (hxb:x<4294967296) (hq:z/m=q) (hs:z%m=s):q<4294967296∧SmI xs m k (o.set k q) s:=by
 have hm:=h.small;have Rz:q<4294967296:=by rw [← hq];exact Nat.div_lt_of_lt_mul (by have:=Nat.mul_le_mul_right 4294967296 (show r+1≤m from hm);omega)
 refine ⟨Rz,by simp [h.len],ko h.lt Rz,?_,by rw [← hs];exact Nat.mod_lt _ (by omega)⟩;have h1:=sU xs k hk;have h2:=sU (o.set k q) k (by simp [h.len];exact hk);rw [pG _ (by rw [h.len];exact hk),List.drop_set_of_lt (show k<k+1 by omega)] at h2;have h3:q*m+s=z:=by rw [← hq,← hs,Nat.mul_comm];exact Nat.div_add_mod _ _
 rw [h1,h2,hx,h.val,Nat.add_mul,Nat.mul_add,Nat.mul_assoc];omega
set_option maxRecDepth 100000 in
theorem Lg (w:World) (v:Value) (a m:Nat) (h:Un w v a) (hl:(limbs a).length≤1000000) (hm:m<4294967296) (h0:m≠0) (q r:Nat) (hq:a/m=q) (hr:a%m=r) :Calls prog 189 #[v,.int .u32 (m:Nat)] w fun e w'=>(∃ u,e = .returned (.tuple #[u,.int .u32 (r:Nat),.int .i64 0])∧Un w' u q)∧Ext w w':=by
 have hva:=aM a;have h':U w v (limbs a):=h;generalize limbs a=xs at *;clear h;obtain ⟨A,c,rfl,⟨hc,hmx⟩,hx,hr0⟩:=h';obtain ⟨i0,hi,hz0,hz1,hz2⟩:=info_parts sS;obtain ⟨L,hL⟩:∃ L,xs.length=L:=⟨_,rfl⟩;have HL:=Lib.hid hL;rw [hL] at hc hmx hr0 hl ⊢;have Yb:Hid (∀ o s,SmI xs m 0 o s→val o=q∧s=r):=fun o s h=>by have h1:=h.val;rw [List.drop_zero,List.drop_zero,hva] at h1;obtain ⟨a1,a2⟩:=Jr m a (val o) s h1.symm h.small;exact ⟨by rw [← hq,a1],by rw [← hr,a2]⟩
 have HS0:Hid (SmI xs m L (List.replicate L 0) 0):=⟨by simp [hL],by simp,by rw [List.drop_eq_nil_of_le (by omega),List.drop_eq_nil_of_le (by simp)];simp [val],by omega⟩;obtain ⟨B,hB⟩:∃ B,w.heap.size=B:=⟨_,rfl⟩;have hmz:((m:Int)==0)=false:=by rw [beq_eq_false_iff_ne];omega
 have amD:¬ ((m:Int)=0):=by omega
 have hmw:=mE (show m<18446744073709551616 by omega);have amE:=nN (show m<18446744073709551616 by omega);have HM:=Lib.hid hm;have hrb:r<4294967296:=by rw [← hr];exact Nat.lt_trans (Nat.mod_lt _ (by omega)) hm
 have HRB:=Lib.hid hrb;clear hL hq hr hva hm hrb;go_enter func189,ntmps189;go_wp2_with (at_make;refine wpList_make_full _ rfl _ _ 24 rfl w.heap.size 57 i0 (.int .u32 0) 1 underlying24 hi hz0 hz1 _ _ _ _ L rfl rfl (by omega) (by omega) (by rw [hz2];omega) (by unfold maxLen;omega) (Nat.le_refl _) ?_;intro w1 hown hgrow);have ho0:Own w1 w.heap.size (.slice (some ⟨w.heap.size,0,none⟩) L L) (List.replicate L 0):=by have:=Own.zeros hown;rwa [List.length_replicate] at this
 have hE0:Ext w w1:=(Ext.refl w).grown hgrow (Nat.le_refl _) (fun _ h=>by cases h);rw [hB] at ho0;clear hown hgrow hi hz0 hz1 hz2 i0;go_wp2;go_loopw [9,8] (fun t s wr=>∃ (k:Nat) (z:Int) (o:List Nat) (rs:Nat),k≤L∧t = .int .i64 z∧z=(k:Int)-1∧s = .int .u64 (rs:Nat)∧Hid (SmI xs m k o rs)∧Own wr B (.slice (some ⟨B,0,none⟩) L L) o∧Ext w wr) (fun t _ _=>(intOf t+1).toNat);case atStart=>exact ⟨L,_,_,0,Nat.le_refl _,rfl,rfl,rfl,HS0,ho0,hE0⟩
 case round =>
  clear ho0 hE0 HS0;obtain ⟨k,z,o,rs,hk,rfl,hz,rfl,HO,hown,hE⟩:=hrel;cases k with
  | zero =>obtain rfl:z = -1:=(by omega);obtain ⟨d1,rfl⟩:=Yb.out o rs HO.out;have hol:=HO.out.len;have hu:=hown.Ht HO.out.lt (by rw [hol,HL.out];omega);have HMK:=Lib.hid (Ce _ _ _ hu q d1);have hw1:=zW HRB.out;have hw2:=zX HRB.out;clear d1 hown HO hol hu Yb hz;go_wp2_with (fail);refine HMK.out.mono ?_;rintro e w2 ⟨u,rfl,hu,hB2⟩;have HF:Hid (∃ u',Ending.returned (.tuple #[u,.int .u32 (rs:Nat),.int .i64 0]) = .returned (.tuple #[u',.int .u32 (rs:Nat),.int .i64 0])∧Un w2 u' q):=⟨_,rfl,hu⟩;replace hE:=hE.below hB2;clear hu hB2 HMK;go_wp2;go_ret3;exact ⟨HF.out,hE⟩
  | succ j =>
   obtain rfl:z=(j:Int):=(by omega);obtain ⟨ad,rfl,hb,hcell⟩:=hr0 (by omega);have hc0:=(hE.cell (p:=ad.add j) (by rw [aW];exact hb)).trans (hcell j (by omega));have hxb:=fD hx j;obtain ⟨x,hx0⟩:∃ x,lb xs j=x:=⟨_,rfl⟩;rw [hx0] at hc0 hxb;have hrs:=HO.out.small;have hm2:=HM.out;obtain ⟨y,hy⟩:∃ y,4294967296*rs+x=y:=⟨_,rfl⟩;obtain ⟨p,hp⟩:∃ p,y/m=p:=⟨_,rfl⟩;obtain ⟨s,hs⟩:∃ s,y%m=s:=⟨_,rfl⟩;obtain ⟨hpb,hst⟩:=HO.out.step (by rw [HL.out];omega) x y p s hx0 hy hxb hp hs;have HST:=Lib.hid hst;have o1:=RA x rs y hxb (by omega) hy;have o2:(rs:Int)*4294967296=((4294967296*rs:Nat):Int):=(by omega);have o3:=mE (show 4294967296*rs<18446744073709551616 by omega);have o4:=nN (show 4294967296*rs<18446744073709551616 by omega);have o5:=mE (show x<18446744073709551616 by omega);have o6:=nN (show x<18446744073709551616 by omega);have o7:(y:Int).tdiv (m:Int)=(p:Int):=(by rw [Int.tdiv_eq_ediv_of_nonneg (Int.natCast_nonneg _),← hp,Int.natCast_ediv]);have o8:(y:Int).tmod (m:Int)=(s:Int):=(by rw [Int.tmod_eq_emod_of_nonneg (Int.natCast_nonneg _),← hs,Int.natCast_emod]);have o7':(y:Int)/(m:Int)=(p:Int):=(by rw [← hp,Int.natCast_ediv]);have o8':(y:Int)%(m:Int)=(s:Int):=(by rw [← hs,Int.natCast_emod]);have o9:=zW hpb;have o10:=zX hpb;have o11:=mE (show p<18446744073709551616 by omega);have o12:=nN (show p<18446744073709551616 by omega);have hsb:s<18446744073709551616:=(by rw [← hs];exact Nat.lt_trans (Nat.mod_lt _ (by omega)) (by omega));have o13:=mE hsb;have o14:=nN hsb;have hol:=HO.out.len;have hjl:j<o.length:=(by rw [hol,HL.out];omega);have hf:=hown.frozen' j;have hcz:=hown.rd.2 j hjl;have hown2:=hown.set' j p;have hE2:=hE.setCell (p:=⟨B,j,none⟩) (by rw [hB];exact Nat.le_refl _) (.int .u32 (p:Nat));have hbn:(ad.add j).block≠B:=(by rw [aW];omega);have hj2:j<L:=(by omega);generalize 4294967296*rs=y2 at *;clear hx0 hxb hrs hm2 hp hs hpb hst hy hsb hown HO hE hol hjl hz;go_wp2;go_roundw;case rel=>exact ⟨j,_,_,s,by omega,rfl,rfl,rfl,HST,hown2,hE2⟩
   case measure=>simp [intOf]
