/- The document's division, bit by bit. -/
import Derived.Test.YtdpmbgomcjnohaaGreatDoorBap
import Derived.Test.YtdpmbgomcjnohaaGreatDoorBaq

namespace Go.Proofs.YtdpmbgomcjnohaaGreatDoor
open Go.RowKit
set_option linter.unusedVariables false
set_option maxHeartbeats 400000
theorem WC (o:List Nat) (k:Nat) (hx:∀ x∈o,x<4294967296):lb o k=val o/4294967296^k%4294967296:=by
 rw [← GK o k hx]
 rcases Nat.lt_or_ge k o.length with h | h
 · rw [jR o k h,Nat.add_mul_mod_self_left,Nat.mod_eq_of_lt (cK hx k)]
 · rw [pz h,List.drop_eq_nil_of_le h];rfl
structure EK (a b La j:Nat) (o:List Nat):Prop where
 len:o.length=La
 lt:∀ x∈o,x<4294967296
 val:val o=a/2^j/b*2^j
theorem LQ (a j:Nat):a/2^j=2*(a/2^(j+1))+a/2^j%2:=by
 rw [Nat.pow_succ,← Nat.div_div_eq_div_mul]
 exact (Nat.div_add_mod _ _).symm
theorem EK.none {a b La j:Nat} {o:List Nat} (h:EK a b La (j+1) o) (bit r:Nat) (hb:a/2^j%2=bit) (hr:a/2^(j+1)%b=r) (hlt:2*r+bit<b):EK a b La j o∧a/2^j%b=2*r+bit:=by
 have h1:=LQ a j
 rw [hb] at h1
 obtain ⟨h2,h3⟩:=Wq (a/2^(j+1)) b bit _ r rfl hr hlt
 refine ⟨⟨h.len,h.lt,?_⟩,by rw [h1];exact h3⟩
 rw [h.val,h1,h2,Nat.pow_succ,Nat.mul_comm (2^j) 2,← Nat.mul_assoc,Nat.mul_comm _ 2]
theorem EK.more {a b La j:Nat} {o:List Nat} (h:EK a b La (j+1) o) (hb0:0<b) (bit r k s P x:Nat) (hb:a/2^j%2=bit) (hr:a/2^(j+1)%b=r) (hge:b≤2*r+bit) (hk:j/32=k) (hs:j%32=s) (hP:2^s=P) (hx:lb o k=x) (hkl:k<La) :
  x+P<4294967296∧EK a b La j (o.set k (x+P))∧a/2^j%b=2*r+bit-b:=by
 have h1:=LQ a j
 rw [hb] at h1
 have hbit:bit≤1:=by omega
 obtain ⟨h2,h3⟩:=Tq (a/2^(j+1)) b bit _ r hb0 hbit rfl hr hge
 have hjs:j+1=32*k+(s+1):=by omega
 have abV:s<32:=by omega
 have h4:=WC o k h.lt
 rw [h.val,hx,hjs,Nat.pow_add,EJ,Nat.mul_comm (2^(32*k)),← Nat.mul_assoc,Nat.mul_div_cancel _ (Nat.two_pow_pos _)] at h4
 have h5:x+P<4294967296:=by
  obtain ⟨d,hd⟩:∃ d,32=s+1+d:=⟨31-s,by omega⟩
  have e1:(4294967296:Nat)=2^(s+1)*2^d:=by rw [← Nat.pow_add,← hd]
  generalize a/(2^(s+1)*2^(32*k))/b=Q at h4
  rw [e1,Nat.mul_comm Q,Nat.mul_mod_mul_left] at h4
  have e2:Q%2^d<2^d:=Nat.mod_lt _ (Nat.two_pow_pos _)
  have e3:2^(s+1)*(Q%2^d+1)≤2^(s+1)*2^d:=Nat.mul_le_mul_left _ e2
  have e4:2^(s+1)=P*2:=by rw [Nat.pow_succ,hP]
  have e5:0<P:=by rw [← hP];exact Nat.two_pow_pos _
  rw [Nat.mul_add,Nat.mul_one] at e3
  omega
 refine ⟨h5,⟨by simp [h.len],dY h.lt h5,?_⟩,by rw [h1];exact h3⟩
 have h6:=qD o k (x+P) (by rw [h.len];exact hkl)
 rw [hx,h.val,Nat.add_mul] at h6
 have h7:P*4294967296^k=2^j:=by rw [← hP,EJ,← Nat.pow_add];congr 1;omega
 rw [h7] at h6
 have h8:a/2^j/b*2^j=a/2^(j+1)/b*2^(j+1)+2^j:=by
  rw [h1,h2,Nat.add_mul,Nat.one_mul,Nat.pow_succ,Nat.mul_comm (2^j) 2,← Nat.mul_assoc,Nat.mul_comm _ 2]
 rw [h8]
 omega
end Go.Proofs.YtdpmbgomcjnohaaGreatDoor
/- The same contracts, with where the answers lie: in blocks that the call has made. -/
namespace Go.Proofs.YtdpmbgomcjnohaaGreatDoor
open Go.RowKit
set_option linter.unusedVariables false
set_option maxHeartbeats 400000
set_option maxRecDepth 100000
attribute [local go_sem ↓] fD
attribute [local go_sem] bL
def tX (b:Nat) (v:Value):Prop:=∀ (ad:Addr) (n c:Nat),v = .slice (some ad) n c→b≤ad.block
theorem tX.mono {b b':Nat} {v:Value} (h:tX b v) (hb:b'≤b):tX b' v:=fun ad n c e=>Nat.le_trans hb (h ad n c e)
theorem tX.uW (b n c:Nat):tX b (.slice none n c):=fun ad n c e=>by cases e
theorem tX.sub {b n c:Nat} {A:Option Addr} (h:tX b (.slice A n c)) (k c':Nat):tX b (.slice A k c'):=fun ad n' c'' e=>by
 injection e with e1 e2 e3
 subst e1
 exact h ad n c rfl
theorem Own.fr {w:World} {base:Nat} {v:Value} {o:List Nat} (h:Own w base v o):tX base v:=by
 rcases h.2 with hn | ⟨g,cap,cur,rfl,hb,_⟩
 · intro ad n c e
   rw [hn.1] at e;cases e
 · intro ad n c e
   injection e with e1 _ _
   injection e1 with e1
   subst e1
   exact hb
theorem U.apart {w w':World} {B b:Nat} {v:Value} {xs:List Nat} (h:U w v xs) (hf:tX b v) (hB:B<b) (hb:But B w w'):U w' v xs:=by
 obtain ⟨A,c,rfl,hc,hx,hr⟩:=h
 refine ⟨A,c,rfl,hc,hx,fun h0=>?_⟩
 obtain ⟨ad,hA,hbk,hcell⟩:=hr h0
 subst hA
 have:=hf ad _ _ rfl
 exact ⟨ad,rfl,by have:=hb.size;omega,fun j hj=>(hb.cell (by rw [aF];exact hbk) (by rw [aF];omega)).trans (hcell j hj)⟩
theorem U.old {w w':World} {B:Nat} {w0:World} {v:Value} {xs:List Nat} (h:U w0 v xs) (he:Ext w0 w) (hB:w0.heap.size≤B) (hb:But B w w'):U w' v xs:=by
 refine h.keep (Nat.le_trans he.size hb.size) fun p hp=>?_
 rw [hb.cell (by have:=he.size;omega) (by omega)]
 exact he.cell hp
theorem qF (w:World) (v:Value) (xs:List Nat) (h:U w v xs) (hlen:xs.length≤1000000000) :
  Calls Tryz.prog 100 #[v] w fun e w'=>(∃ u,e = .returned u∧U w' u (limbs (val xs))∧tX w.heap.size u)∧Below w.heap.size w w':=by
 have h':=h
 obtain ⟨A,c,rfl,⟨hc,hm⟩,hx,hr⟩:=h
 go_enter Tryz.func100,Tryz.ntmps100
 go_wp2
 go_loop [3] (fun n=>∃ k:Nat,k≤xs.length∧n = .int .i64 k∧Hid (∀ j,k≤j→j<xs.length→lb xs j=0)) (fun n=>(intOf n).toNat)
 case atStart=>exact ⟨xs.length,Nat.le_refl _,rfl,fun j h1 h2=>by omega⟩
 case round =>
  obtain ⟨k,hk,rfl,hz⟩:=hrel
  have hfin:(0<k→lb xs (k-1)≠0)→∃ v' w',(Builtin.append_ #[22,22] 22 #[.slice (some ⟨w.heap.size,0,none⟩) 0 0,.slice A k c]).run Tryz.prog (w.alloc (.cells #[] 67)) = .ok v' w'∧(U w' v' (limbs (val xs))∧tX w.heap.size v')∧Below w.heap.size w w':=fun h2=>by
   have hB:Below w.heap.size w (w.alloc (.cells #[] 67)):=(Below.refl _ _).alloc (Nat.le_refl _) _
   have hown:Own (w.alloc (.cells #[] 67)) w.heap.size (.slice (some ⟨w.heap.size,0,none⟩) 0 0) []:=World.ownsRow_lit w #[] 0 (Nat.le_refl _) (Nat.zero_le _) rfl
   have hu:U w (.slice A k c) (xs.take k):=h'.take hk (by omega)
   have htl:(xs.take k).length=k:=by simp;omega
   obtain ⟨v',w',hrun,ho,hg⟩:=ng _ w.heap.size _ [] hown _ _ (hu.below hB) (by rw [htl];simp;omega) hB.size
   refine ⟨v',w',hrun,?_,hB.grown hg hB.size (fun j e=>by cases e;exact Nat.le_refl _)⟩
   refine ⟨?_,ho.fr⟩
   rw [wL xs k hx hk hz.out h2]
   rw [List.nil_append] at ho
   exact ho.xX (fun x hx'=>hx x (List.mem_of_mem_take hx')) (by rw [htl];omega)
  rcases Nat.eq_zero_or_pos k with rfl | h0
  · obtain ⟨v',w',hrun,HU,HB⟩:=hfin (fun h=>absurd h (by omega))
    obtain ⟨t1,t2,t3⟩:=eD hrun
    clear hfin hrun
    go_wp2
    go_ret
    exact ⟨⟨_,rfl,HU⟩,HB⟩
  · obtain ⟨ad,rfl,hb,hcell⟩:=hr (by omega)
    have hc1:=hcell (k-1) (by omega)
    by_cases hx0:lb xs (k-1)=0
    · have ht:((((lb xs (k-1):Nat)):Int)==0)=true:=by rw [hx0];rfl
      have HX:=Lib.hid hx0
      clear hx0 hfin
      go_wp2
      go_round
      case rel=>exact ⟨k-1,by omega,by go_num,fun j h1 h2=>by
       rcases Nat.lt_or_ge j k with h3 | h3
       · have:j=k-1:=by omega
         subst this;exact HX.out
       · exact hz.out j h3 h2⟩
      case measure=>simp [intOf];omega
    · have ht:((((lb xs (k-1):Nat)):Int)==0)=false:=by rw [beq_eq_false_iff_ne];omega
      obtain ⟨v',w',hrun,HU,HB⟩:=hfin (fun _=>hx0)
      obtain ⟨t1,t2,t3⟩:=eD hrun
      clear hfin hrun hx0
      go_wp2
      go_ret
      exact ⟨⟨_,rfl,HU⟩,HB⟩
set_option maxRecDepth 100000 in
theorem GQ (w:World) (v u:Value) (xs ys:List Nat) (h:U w v xs) (g:U w u ys) (hl:xs.length≤100000000) (hl2:ys.length≤100000000) :
  Calls Tryz.prog 95 #[v,u] w fun e w'=>(∃ z,e = .returned z∧U w' z (limbs (val xs+val ys))∧tX w.heap.size z)∧Below w.heap.size w w':=by
 obtain ⟨A,c,rfl,⟨hc,hm⟩,hx,hr⟩:=id h
 obtain ⟨A2,c2,rfl,⟨hc2,hm2⟩,hx2,hr2⟩:=id g
 clear hr hr2
 go_enter Tryz.func95,Tryz.ntmps95
 go_wp2_with (fail)
 have hown0:Own (w.alloc (.cells #[] 67)) w.heap.size (.slice (some ⟨w.heap.size,0,none⟩) 0 0) []:=World.ownsRow_lit w #[] 0 (Nat.le_refl _) (Nat.zero_le _) rfl
 have hB0:Below w.heap.size w (w.alloc (.cells #[] 67)):=(Below.refl _ _).alloc (Nat.le_refl _) _
 go_loopw [5,6,7] (fun s cv i wr=>∃ (k cy:Nat) (o:List Nat),k≤max xs.length ys.length+1∧i = .int .i64 k∧cv = .int .u64 cy∧Hid (uX xs ys k o cy)∧Own wr w.heap.size s o∧Below w.heap.size w wr) (fun _ _ i _=>max xs.length ys.length+2-(intOf i).toNat)
 case atStart=>exact ⟨0,0,[],Nat.zero_le _,rfl,rfl,uX.start xs ys,hown0,hB0⟩
 case round =>
  clear hown0 hB0
  obtain ⟨k,cy,o,hk,rfl,rfl,HO,hown,hB⟩:=hrel
  by_cases hd1:k≤xs.length
  · have h1:=cK hx k
    have h2:=cK hx2 k
    have h3:=HO.out.carry
    have hlen:=HO.out.len
    obtain ⟨x1,hx1⟩:∃ x1,(lb xs k+lb ys k+cy)%4294967296=x1:=⟨_,rfl⟩
    obtain ⟨c1,hc1⟩:∃ c1,(lb xs k+lb ys k+cy)/4294967296=c1:=⟨_,rfl⟩
    have AQ:Hid (uX xs ys (k+1) (o++[x1]) c1):=by rw [Hid,← hx1,← hc1];exact HO.out.step hx hx2
    obtain ⟨v',w',hrun,hown',hB'⟩:=fI hB hown ((((lb xs k:Nat):Int)+((lb ys k:Nat):Int)+(cy:Int))%4294967296) x1 (by rw [← hx1];omega) (by rw [← hx1];exact Nat.mod_lt _ (by decide)) (by omega)
    obtain ⟨t1,t2,t3⟩:=eD hrun
    have hk2:k+1≤max xs.length ys.length+1:=by omega
    have EM:Hid ((((lb xs k:Nat):Int)+((lb ys k:Nat):Int)+(cy:Int))/4294967296=(c1:Int)):=by rw [Hid,← hc1];omega
    clear hrun hx1 hc1 hlen
    go_wp2_with (fail)
    refine (bJ _ _ xs _ k rfl (h.below hB)).mono ?_
    rintro e w' ⟨rfl,rfl⟩
    go_wp2_with (fail)
    refine (bJ _ _ ys _ k rfl (g.below hB)).mono ?_
    rintro e w' ⟨rfl,rfl⟩
    go_wp2_with (fail)
    go_roundw
    case rel=>exact ⟨k+1,c1,_,hk2,by go_num,by rw [EM.out],AQ,hown',hB'⟩
    case measure=>simp [intOf];omega
  · by_cases hd2:k≤ys.length
    · have h1:=cK hx k
      have h2:=cK hx2 k
      have h3:=HO.out.carry
      have hlen:=HO.out.len
      obtain ⟨x1,hx1⟩:∃ x1,(lb xs k+lb ys k+cy)%4294967296=x1:=⟨_,rfl⟩
      obtain ⟨c1,hc1⟩:∃ c1,(lb xs k+lb ys k+cy)/4294967296=c1:=⟨_,rfl⟩
      have AQ:Hid (uX xs ys (k+1) (o++[x1]) c1):=by rw [Hid,← hx1,← hc1];exact HO.out.step hx hx2
      obtain ⟨v',w',hrun,hown',hB'⟩:=fI hB hown ((((lb xs k:Nat):Int)+((lb ys k:Nat):Int)+(cy:Int))%4294967296) x1 (by rw [← hx1];omega) (by rw [← hx1];exact Nat.mod_lt _ (by decide)) (by omega)
      obtain ⟨t1,t2,t3⟩:=eD hrun
      have hk2:k+1≤max xs.length ys.length+1:=by omega
      have EM:Hid ((((lb xs k:Nat):Int)+((lb ys k:Nat):Int)+(cy:Int))/4294967296=(c1:Int)):=by rw [Hid,← hc1];omega
      clear hrun hx1 hc1 hlen
      go_wp2_with (fail)
      refine (bJ _ _ xs _ k rfl (h.below hB)).mono ?_
      rintro e w' ⟨rfl,rfl⟩
      go_wp2_with (fail)
      refine (bJ _ _ ys _ k rfl (g.below hB)).mono ?_
      rintro e w' ⟨rfl,rfl⟩
      go_wp2_with (fail)
      go_roundw
      case rel=>exact ⟨k+1,c1,_,hk2,by go_num,by rw [EM.out],AQ,hown',hB'⟩
      case measure=>simp [intOf];omega
    · have hlen:=HO.out.len
      obtain ⟨j,rfl⟩:∃ j,k=j+1:=⟨k-1,by omega⟩
      have HV:Hid (val o=val xs+val ys):=HO.out.done hx hx2 (by omega) (by omega)
      have hu:=hown.xX HO.out.lt (by omega)
      have hol:o.length≤1000000000:=by omega
      clear hlen
      go_wp2_with (fail)
      refine (qF _ _ _ hu hol).mono ?_
      rintro e w' ⟨⟨z,rfl,hz,hf⟩,hB2⟩
      have hf2:Hid (tX w.heap.size z):=hf.mono hB.size
      clear hf
      rw [HV.out] at hz
      replace hB:=Below.trans hB (Below.mono hB2 hB.size)
      go_wp2
      go_ret
      exact ⟨⟨_,rfl,hz,hf2.out⟩,hB⟩
set_option maxRecDepth 100000 in
theorem GR (w:World) (v u:Value) (n m:Nat) (h:Un w v n) (g:Un w u m) (hl:(limbs n).length≤100000000) (hl2:(limbs m).length≤100000000) (b:Bool) (hb:decide (m≤n)=b) (d:Nat) (hd:n-m=d) :
  Calls Tryz.prog 96 #[v,u] w fun e w'=>(∃ z,e = .returned (.tuple #[z,.bool b])∧Un w' z d∧tX w.heap.size z)∧Below w.heap.size w w':=by
 obtain ⟨A,c,rfl,⟨hc,hm⟩,hx,hr⟩:=id h
 obtain ⟨A2,c2,rfl,⟨hc2,hm2⟩,hx2,hr2⟩:=id g
 clear hr hr2
 rcases Nat.lt_or_ge n m with hlt | hge
 · have HF:Hid (bZ (val (limbs n):Nat) (val (limbs m):Nat) = -1):=by rw [Hid,aH,aH];exact kV (Int.ofNat_lt.2 hlt)
   obtain rfl:d=0:=by omega
   obtain rfl:b=false:=by rw [← hb,decide_eq_false_iff_not];omega
   clear hb hd hlt
   go_enter Tryz.func96,Tryz.ntmps96
   go_wp2_with (fail)
   refine (nR _ _ _ _ _ h g (by omega) (by omega)).mono ?_
   rintro e w' ⟨rfl,rfl⟩
   rw [HF.out]
   go_wp2
   go_ret2
   exact ⟨⟨_,rfl,JF _,tX.uW _ _ _⟩,Below.refl _ _⟩
 · have HF:Hid (0≤bZ (val (limbs n):Nat) (val (limbs m):Nat)):=by
    rw [Hid,aH,aH]
    rcases Nat.lt_or_ge m n with h1 | h1
    · rw [lZ (Int.ofNat_lt.2 h1)];decide
    · obtain rfl:n=m:=by omega
      rw [qC];decide
   obtain rfl:b=true:=by rw [← hb,decide_eq_true_iff];omega
   have HD:=Lib.hid hd
   have HG:=Lib.hid hge
   have hll:=fC hge
   clear hb hd hge
   obtain ⟨K,hK⟩:∃ K,bZ (val (limbs n):Nat) (val (limbs m):Nat)=K:=⟨_,rfl⟩
   have hK0:0≤K:=by rw [← hK];exact HF.out
   clear HF
   go_enter Tryz.func96,Tryz.ntmps96
   go_wp2_with (fail)
   refine (nR _ _ _ _ _ h g (by omega) (by omega)).mono ?_
   rintro e w' ⟨rfl,rfl⟩
   rw [hK]
   clear hK
   go_wp2_with (fail)
   have hown0:Own (w.alloc (.cells #[] 67)) w.heap.size (.slice (some ⟨w.heap.size,0,none⟩) 0 0) []:=World.ownsRow_lit w #[] 0 (Nat.le_refl _) (Nat.zero_le _) rfl
   have hB0:Below w.heap.size w (w.alloc (.cells #[] 67)):=(Below.refl _ _).alloc (Nat.le_refl _) _
   go_loopw [6,7,8] (fun s cv i wr=>∃ (k cy:Nat) (o:List Nat),k≤(limbs n).length∧i = .int .i64 k∧cv = .int .u64 cy∧Hid (xY (limbs n) (limbs m) k o cy)∧Own wr w.heap.size s o∧Below w.heap.size w wr) (fun _ _ i _=>(limbs n).length-(intOf i).toNat)
   case atStart=>exact ⟨0,0,[],Nat.zero_le _,rfl,rfl,xY.start _ _,hown0,hB0⟩
   case round =>
    clear hown0 hB0
    obtain ⟨k,cy,o,hk,rfl,rfl,HO,hown,hB⟩:=hrel
    by_cases hd1:k<(limbs n).length
    · have h1:=cK hx k
      have h2:=cK hx2 k
      have h3:=HO.out.carry
      have hlen:=HO.out.len
      obtain ⟨x1,hx1⟩:∃ x1,(4294967296+lb (limbs n) k-lb (limbs m) k-cy)%4294967296=x1:=⟨_,rfl⟩
      obtain ⟨c1,hc1⟩:∃ c1,1-(4294967296+lb (limbs n) k-lb (limbs m) k-cy)/4294967296=c1:=⟨_,rfl⟩
      have AQ:Hid (xY (limbs n) (limbs m) (k+1) (o++[x1]) c1):=by rw [Hid,← hx1,← hc1];exact HO.out.step hx hx2
      obtain ⟨v',w',hrun,hown',hB'⟩:=fI hB hown ((4294967296+((lb (limbs n) k:Nat):Int)-((lb (limbs m) k:Nat):Int)-(cy:Int))%4294967296) x1 (by rw [← hx1];omega) (by rw [← hx1];exact Nat.mod_lt _ (by decide)) (by omega)
      obtain ⟨t1,t2,t3⟩:=eD hrun
      have EM:Hid (1-(4294967296+((lb (limbs n) k:Nat):Int)-((lb (limbs m) k:Nat):Int)-(cy:Int))/4294967296=(c1:Int)):=by rw [Hid,← hc1];omega
      clear hrun hx1 hc1 hlen
      go_wp2_with (fail)
      refine (bJ _ _ (limbs n) _ k rfl (U.below h hB)).mono ?_
      rintro e w' ⟨rfl,rfl⟩
      go_wp2_with (fail)
      refine (bJ _ _ (limbs m) _ k rfl (U.below g hB)).mono ?_
      rintro e w' ⟨rfl,rfl⟩
      go_wp2_with (fail)
      go_roundw
      case rel=>exact ⟨k+1,c1,_,by omega,by go_num,by rw [EM.out],AQ,hown',hB'⟩
      case measure=>simp [intOf];omega
    · have hlen:=HO.out.len
      obtain rfl:k=(limbs n).length:=by omega
      have HV:Hid (val o=d):=by rw [Hid,HO.out.done hll (by rw [aH,aH];exact HG.out),aH,aH];exact HD.out
      have hu:=hown.xX HO.out.lt (by omega)
      have hol:o.length≤1000000000:=by omega
      clear hlen
      go_wp2_with (fail)
      refine (qF _ _ _ hu hol).mono ?_
      rintro e w' ⟨⟨z,rfl,hz,hf⟩,hB2⟩
      have hf2:Hid (tX w.heap.size z):=hf.mono hB.size
      clear hf
      have hz2:Un w' z d:=by rw [← HV.out];exact hz
      replace hB:=Below.trans hB (Below.mono hB2 hB.size)
      clear hz
      go_wp2
      go_ret2
      exact ⟨⟨_,rfl,hz2,hf2.out⟩,hB⟩
set_option maxRecDepth 100000 in
theorem GU (w:World) (v:Value) (n:Nat) (k0:Nat) (hk:k0≤100000000) (h:Un w v n) (hl:(limbs n).length≤100000000) :
  Calls Tryz.prog 92 #[v,.int .i64 (k0:Int)] w fun e w'=>(∃ u,e = .returned u∧Un w' u (n*2^k0)∧tX w.heap.size u)∧Below w.heap.size w w':=by
 obtain ⟨A,c,rfl,⟨hc,hm⟩,hx,hr⟩:=id h
 clear hr
 obtain ⟨Q,hQ⟩:∃ Q,k0/32=Q:=⟨_,rfl⟩
 obtain ⟨S,hS⟩:∃ S,k0%32=S:=⟨_,rfl⟩
 have eQ:(k0:Int)/32=(Q:Int):=by omega
 have eS:(k0:Int)%32=(S:Int):=by omega
 have HK:Hid (k0=32*Q+S):=by rw [Hid];omega
 have nS:S<32:=by omega
 have VB:Q≤100000000:=by omega
 go_enter Tryz.func92,Tryz.ntmps92
 go_wp2_with (fail)
 have hown0:Own (w.alloc (.cells #[] 67)) w.heap.size (.slice (some ⟨w.heap.size,0,none⟩) 0 0) []:=World.ownsRow_lit w #[] 0 (Nat.le_refl _) (Nat.zero_le _) rfl
 have hB0:Below w.heap.size w (w.alloc (.cells #[] 67)):=(Below.refl _ _).alloc (Nat.le_refl _) _
 go_loopw [5,8] (fun s i wr=>∃ k:Nat,k≤Q∧i = .int .i64 k∧Own wr w.heap.size s (List.replicate k 0)∧Below w.heap.size w wr) (fun _ i _=>Q-(intOf i).toNat)
 case atStart=>exact ⟨0,Nat.zero_le _,rfl,hown0,hB0⟩
 case round =>
  clear hown0 hB0
  obtain ⟨k,hk1,rfl,hown,hB⟩:=hrel
  by_cases hd1:k<Q
  · obtain ⟨v',w',hrun,hown',hB'⟩:=fI hB hown 0 0 rfl (by decide) (by simp;omega)
    obtain ⟨t1,t2,t3⟩:=eD hrun
    rw [← List.replicate_succ'] at hown'
    clear hrun
    go_wp2
    go_roundw
    case rel=>exact ⟨k+1,by omega,by go_num,hown',hB'⟩
    case measure=>simp [intOf];omega
  · obtain rfl:k=Q:=by omega
    go_wp2_with (fail)
    go_loop [7,9] (fun b i=>∃ j:Nat,j≤S∧i = .int .i64 j∧b = .int .u64 (2^j:Nat)) (fun _ i=>S-(intOf i).toNat)
    case atStart=>exact ⟨0,Nat.zero_le _,rfl,rfl⟩
    case round =>
     obtain ⟨j,hj,rfl,rfl⟩:=hrel
     have hp1:2^j<4294967296:=Nat.lt_of_le_of_lt (Nat.pow_le_pow_right (by decide) (show j≤31 by omega)) (by decide)
     by_cases hd2:j<S
     · have HN:Hid (2*((2^j:Nat):Int)=((2^(j+1):Nat):Int)):=by rw [Hid,Nat.pow_succ];omega
       obtain ⟨X,hX⟩:∃ X,2^j=X:=⟨_,rfl⟩
       rw [hX] at HN hp1
       rw [hX]
       clear hX
       go_wp2
       go_round
       case rel=>exact ⟨j+1,by omega,by go_num,by rw [← HN.out]⟩
       case measure=>simp [intOf];omega
     · obtain rfl:j=S:=by omega
       have hp0:0<2^j:=Nat.two_pow_pos j
       have O8:Hid (n*2^k0=n*2^j*4294967296^k):=by
        rw [Hid,HK.out,mE,Nat.pow_add,Nat.mul_comm (2^(32*k)),← Nat.mul_assoc]
       obtain ⟨P,hP⟩:∃ P,2^j=P:=⟨_,rfl⟩
       rw [hP] at hp0 hp1 O8
       rw [hP]
       clear hP
       go_wp2_with (fail)
       have O9:Hid (nT (limbs n) k P 0 (List.replicate k 0) 0):=nT.start _ _ _ hp0
       go_loopw [5,6,10] (fun s cv i wr=>∃ (m cy:Nat) (o:List Nat),m≤(limbs n).length+1∧i = .int .i64 m∧cv = .int .u64 cy∧Hid (nT (limbs n) k P m o cy)∧Own wr w.heap.size s o∧Below w.heap.size w wr) (fun _ _ i _=>(limbs n).length+1-(intOf i).toNat)
       case atStart=>exact ⟨0,0,_,Nat.zero_le _,rfl,rfl,O9,hown,hB⟩
       case round =>
        clear O9 hown hB
        obtain ⟨m,cy,o,hm1,rfl,rfl,HO,hown,hB⟩:=hrel
        have hlen:=HO.out.len
        by_cases hd3:m≤(limbs n).length
        · have h1:=cK hx m
          have h3:=HO.out.carry
          have h4:lb (limbs n) m*P+cy<4294967296*P:=by
           have:=Nat.mul_le_mul_right P (show lb (limbs n) m+1≤4294967296 by omega)
           rw [Nat.add_mul] at this;omega
          have e1:((lb (limbs n) m:Nat):Int)*(P:Int)=((lb (limbs n) m*P:Nat):Int):=by rw [Int.natCast_mul]
          have TK:((lb (limbs n) m:Nat):Int)*(P:Int)+(cy:Int)<18446744073709551616:=by rw [e1];omega
          have Y8:0≤((lb (limbs n) m:Nat):Int)*(P:Int):=by rw [e1];omega
          obtain ⟨x1,hx1⟩:∃ x1,(lb (limbs n) m*P+cy)%4294967296=x1:=⟨_,rfl⟩
          obtain ⟨c1,hc1⟩:∃ c1,(lb (limbs n) m*P+cy)/4294967296=c1:=⟨_,rfl⟩
          have AQ:Hid (nT (limbs n) k P (m+1) (o++[x1]) c1):=by rw [Hid,← hx1,← hc1];exact HO.out.step hx
          obtain ⟨v',w',hrun,hown',hB'⟩:=fI hB hown ((((lb (limbs n) m:Nat):Int)*(P:Int)+(cy:Int))%4294967296) x1 (by rw [← hx1,e1];omega) (by rw [← hx1];exact Nat.mod_lt _ (by decide)) (by omega)
          obtain ⟨t1,t2,t3⟩:=eD hrun
          have EM:Hid ((((lb (limbs n) m:Nat):Int)*(P:Int)+(cy:Int))/4294967296=(c1:Int)):=by rw [Hid,← hc1,e1];omega
          clear hrun hx1 hc1 hlen e1 h4
          go_wp2_with (fail)
          refine (bJ _ _ (limbs n) _ m rfl (U.below h hB)).mono ?_
          rintro e w' ⟨rfl,rfl⟩
          go_wp2_with (fail)
          go_roundw
          case rel=>exact ⟨m+1,c1,_,by omega,by go_num,by rw [EM.out],AQ,hown',hB'⟩
          case measure=>simp [intOf];omega
        · obtain rfl:m=(limbs n).length+1:=by omega
          have HV:Hid (val o=n*2^k0):=by rw [Hid,HO.out.done hx (Nat.le_refl _) hp1,aH,O8.out]
          have hu:=hown.xX HO.out.lt (by omega)
          have hol:o.length≤1000000000:=by omega
          clear hlen
          go_wp2_with (fail)
          refine (qF _ _ _ hu hol).mono ?_
          rintro e w' ⟨⟨z,rfl,hz,hf⟩,hB2⟩
          have hf2:Hid (tX w.heap.size z):=hf.mono hB.size
          clear hf
          have hz2:Un w' z (n*2^k0):=by rw [← HV.out];exact hz
          replace hB:=Below.trans hB (Below.mono hB2 hB.size)
          clear hz
          go_wp2
          go_ret
          exact ⟨⟨_,rfl,hz2,hf2.out⟩,hB⟩
theorem VA (w:World) (v u:Value) (n m:Nat) (h:Un w v n) (g:Un w u m) (hm:(limbs n).length≤100000000) (hm2:(limbs m).length≤100000000) (s:Nat) (hs:n+m=s) :
  Calls Tryz.prog 95 #[v,u] w fun e w'=>∃ z,e = .returned z∧Un w' z s∧tX w.heap.size z∧Ext w w':=by
 subst hs
 have:=GQ w v u _ _ h g hm hm2
 rw [aH,aH] at this
 exact this.mono fun e w' ⟨⟨z,he,hz,hf⟩,hb⟩=>⟨z,he,hz,hf,hb⟩
theorem LX (w:World) (v u:Value) (n m:Nat) (h:Un w v n) (g:Un w u m) (hm:(limbs n).length≤100000000) (hm2:(limbs m).length≤100000000) (b:Bool) (hb:decide (m≤n)=b) (d:Nat) (hd:n-m=d) :
  Calls Tryz.prog 96 #[v,u] w fun e w'=>∃ z,e = .returned (.tuple #[z,.bool b])∧Un w' z d∧tX w.heap.size z∧Ext w w' :=
 (GR w v u n m h g hm hm2 b hb d hd).mono fun e w' ⟨⟨z,he,hz,hf⟩,hb⟩=>⟨z,he,hz,hf,hb⟩
theorem LW (w:World) (v:Value) (n:Nat) (k:Nat) (h:Un w v n) (hk1:k≤100000000) (hl:(limbs n).length≤100000000) (s:Nat) (hs:n*2^k=s) :
  Calls Tryz.prog 92 #[v,.int .i64 (k:Int)] w fun e w'=>∃ z,e = .returned z∧Un w' z s∧tX w.heap.size z∧Ext w w':=by
 subst hs
 exact (GU w v n k hk1 h hl).mono fun e w' ⟨⟨z,he,hz,hf⟩,hb⟩=>⟨z,he,hz,hf,hb⟩
end Go.Proofs.YtdpmbgomcjnohaaGreatDoor
/- The document's division, walked. -/
namespace Go.Proofs.YtdpmbgomcjnohaaGreatDoor
open Go.RowKit
set_option linter.unusedVariables false
set_option maxHeartbeats 400000
set_option maxRecDepth 100000 in
set_option maxHeartbeats 8000000 in
theorem Vz (w:World) (va vb:Value) (a b q r:Nat) (qE:Un w va a) (ry:Un w vb b) (hla:(limbs a).length≤200) (hlb:(limbs b).length≤200) (h0b:b≠0) (hq:a/b=q) (hr:a%b=r) :
  Calls Tryz.prog 129 #[va,vb] w fun e w'=>Dv w w' e q r:=by
 unfold Dv
 have HB:=Ext.refl w
 have Y6:=rQ h0b
 have Yx:=Lib.hid hlb
 obtain ⟨Ab,cb,rfl,hcb⟩:=U.shape (U.fM ry)
 obtain ⟨Aa,ca,rfl,hca⟩:=U.shape (U.fM qE)
 obtain ⟨Lb,hLb⟩:∃ Lb,(limbs b).length=Lb:=⟨_,rfl⟩
 obtain ⟨La,hLa⟩:∃ La,(limbs a).length=La:=⟨_,rfl⟩
 obtain ⟨bl,hbl⟩:∃ bl,fK a=bl:=⟨_,rfl⟩
 rw [hLb] at ry hlb Y6 ⊢
 rw [hLa] at qE hla ⊢
 have hL0:((Lb:Int)==0)=false:=by rw [beq_eq_false_iff_ne];omega
 have hL1:¬ Lb=0:=by omega
 have GL:bl≤32*La:=by rw [← hbl,← hLa];exact y9 a
 have DZ:=Lib.hid (fun W (h:Un W (.slice Aa La ca) a)=>LU W _ a h (by omega) (bl:Int) (by rw [hbl]))
 have TH:=Lib.hid (fun W (j:Nat) (hj:j≤10000) k (hk:a/2^j%2=k) (h:Un W (.slice Aa La ca) a)=>EL W _ a (j:Int) h (by omega) (by omega) (k:Int) (by rw [O4,hk]))
 have YT:Hid (EK a b La bl (List.replicate La 0)):=by
  refine ⟨by simp,by simp,?_⟩
  rw [dG,Nat.div_eq_of_lt (show a<2^bl by rw [← hbl];exact mo a),Nat.zero_div,Nat.zero_mul]
 have Yv:Hid (a/2^bl%b=0):=by rw [Hid,Nat.div_eq_of_lt (show a<2^bl by rw [← hbl];exact mo a),Nat.zero_mod]
 have SS:Hid (∀ o,EK a b La 0 o→val o=q):=fun o h=>by
  have:=h.val
  rwa [Nat.pow_zero,Nat.div_one,Nat.mul_one,hq] at this
 have HDR:Hid (∀ r',a/2^0%b=r'→r'=r):=fun r' h=>by
  rw [Nat.pow_zero,Nat.div_one,hr] at h;exact h.symm
 have HB0:=Lib.hid (show 0<b by omega)
 have Ou:Hid (∀ x,x≤2*b+1→(limbs x).length≤300):=fun x h=>by
  have h1:(limbs b).length≤200:=by omega
  have h2:=LV h1 h1
  have h3:(limbs 1).length≤1:=by rw [mD 1 (by decide) (by decide)];simp
  have h4:=LV h2 h3
  exact Nat.le_trans (fC (show x≤b+b+1 by omega)) (Nat.le_trans h4 (by decide))
 obtain ⟨i0,hi,hz0,hz1,hz2⟩:=info_parts qB
 obtain ⟨B,hB⟩:∃ B,w.heap.size=B:=⟨_,rfl⟩
 have Dl:=Lib.hid hB
 clear hLb hLa hbl hq hr hcb hca Y6 h0b
 have ha0:=qE
 have hb0:=ry
 go_enter Tryz.func129,Tryz.ntmps129
 go_wp2_with (at_make;refine wpList_make_full _ rfl _ _ 22 rfl w.heap.size 67 i0 (.int .u32 0) 1 Tryz.underlying22 hi hz0 hz1 _ _ _ _ La rfl rfl (by omega) (by omega) (by rw [hz2];omega) (by unfold maxLen;omega) (Nat.le_refl _) ?_;intro w1 hown hgrow)
 have ho0:Own w1 w.heap.size (.slice (some ⟨w.heap.size,0,none⟩) La La) (List.replicate La 0):=by
  have:=Own.zeros hown
  rwa [List.length_replicate] at this
 have hE0:Ext w w1:=(Ext.refl w).grown hgrow (Nat.le_refl _) (fun _ h=>by cases h)
 rw [hB] at ho0
 replace qE:=U.below (U.fM qE) hE0
 replace ry:=U.below (U.fM ry) hE0
 clear hown hgrow hi hz0 hz1 hz2 i0 HB
 have hwB:=ho0.block.2
 go_wp2_with (fail)
 refine (DZ.out _ (U.alloc (U.fM qE) _)).mono ?_
 rintro e w2 ⟨rfl,hB2⟩
 have hR0:Un w2 (.slice (some ⟨w1.heap.size,0,none⟩) 0 0) 0:=U.un (U.uW _ _ _) aX
 have hF0:tX (B+1) (.slice (some ⟨w1.heap.size,0,none⟩) 0 0):=fun ad n c e=>by
  injection e with e1 _ _
  injection e1 with e1
  subst e1
  exact hwB
 replace ho0:=(ho0.alloc (.cells #[] 67)).ext hB2
 replace hE0:=(hE0.alloc (.cells #[] 67)).below hB2
 replace qE:=U.below (U.alloc (U.fM qE) _) hB2
 replace ry:=U.below (U.alloc (U.fM ry) _) hB2
 clear hB2 hwB DZ
 go_wp2
 go_loopw [8,9] (fun s8 s9 wr=>∃ (j:Nat) (z:Int) (R:Nat) (o:List Nat),j≤bl∧s9 = .int .i64 z∧z=(j:Int)-1∧Un wr s8 R∧tX (B+1) s8∧Hid (a/2^j%b=R)∧Hid (EK a b La j o)∧Own wr B (.slice (some ⟨B,0,none⟩) La La) o∧Ext w wr) (fun _ s9 _=>(intOf s9+1).toNat)
 case atStart=>exact ⟨bl,_,0,_,Nat.le_refl _,rfl,rfl,hR0,hF0,Yv,YT,ho0,hE0⟩
 case round =>
  clear hR0 hF0 Yv YT ho0 qE ry hE0
  obtain ⟨j,z,R,o,hj,rfl,hz,hR,hf,O5,HO,hown,hE⟩:=hrel
  have qE:=U.below (U.fM ha0) hE
  have ry:=U.below (U.fM hb0) hE
  cases j with
  | zero =>
   obtain rfl:z = -1:=by omega
   obtain rfl:=HDR.out R O5.out
   have hu:=hown.xX HO.out.lt (by rw [HO.out.len];omega)
   have hlo:=HO.out.len
   have HM1:=Lib.hid (zV _ _ o hu (by omega) q (SS.out o HO.out))
   have HM2:=Lib.hid (fun W (h:Un W u8 R)=>zV W _ (limbs R) h (by have:=Ou.out R (by have:=O5.out;have:=Nat.mod_lt (a/2^0) HB0.out;omega);omega) R (aH R))
   clear hu hlo hown HO SS HDR hz qE ry Ou hf
   go_wp2_with (fail)
   refine HM1.out.mono ?_
   rintro e w3 ⟨v3,rfl,hv3,hB3⟩
   replace hR:=U.below (U.fM hR) hB3
   replace hE:=hE.below hB3
   clear hB3 HM1
   go_wp2_with (fail)
   refine (HM2.out _ hR).mono ?_
   rintro e w4 ⟨v4,rfl,hv4,hB4⟩
   replace hE:=hE.below hB4
   have HF:Hid (∃ x' y',Ending.returned (.tuple #[v3,v4,.int .i64 0]) = .returned (.tuple #[x',y',.int .i64 0])∧Un w4 x' q∧Un w4 y' R):=⟨_,_,rfl,U.below (U.fM hv3) hB4,hv4⟩
   clear hB4 HM2 hv3 hv4 hR
   go_wp2
   go_ret3
   exact ⟨HF.out,hE⟩
  | succ j =>
   obtain rfl:z=(j:Int):=by omega
   clear hz
   have hwr:=hown.block.2
   have hRb:R<b:=by rw [← O5.out];exact Nat.mod_lt _ HB0.out
   obtain ⟨R1,TJ⟩:∃ R1,R*2^1=R1:=⟨_,rfl⟩
   have HR1:=Lib.hid TJ
   have hj2:j≤10000:=by omega
   obtain ⟨k,hk⟩:∃ k,j/32=k:=⟨_,rfl⟩
   obtain ⟨s,hs⟩:∃ s,j%32=s:=⟨_,rfl⟩
   obtain ⟨P,hP⟩:∃ P,2^s=P:=⟨_,rfl⟩
   obtain ⟨x,hxe⟩:∃ x,lb o k=x:=⟨_,rfl⟩
   have hkl:k<La:=by omega
   have GM:k<o.length:=by rw [HO.out.len];exact hkl
   have k1:(j:Int)/32=(k:Int):=by omega
   have k2:(j:Int).tdiv 32=(k:Int):=by rw [Int.tdiv_eq_ediv_of_nonneg (Int.natCast_nonneg _)];exact k1
   have k3:(j:Int)%32=(s:Int):=by omega
   have k4:(j:Int).tmod 32=(s:Int):=by rw [Int.tmod_eq_emod_of_nonneg (Int.natCast_nonneg _)];exact k3
   have k5:(0:Int)≤(k:Int):=Int.natCast_nonneg k
   have k6:(k:Int)<(La:Int):=by omega
   have k7:(0:Int)≤(s:Int):=Int.natCast_nonneg s
   have k8:=wE (show k≤1000000 by omega)
   have k9:=wE (show s≤1000000 by omega)
   have hPb:P≤2147483648:=by
    rw [← hP]
    show 2^s≤2^31
    exact Nat.pow_le_pow_right (by decide) (by omega)
   have p1:(2:Int)^s=(P:Int):=by rw [← hP,Int.natCast_pow];rfl
   have p2:=wH (show P<4294967296 by omega)
   have p3:=wI (show P<4294967296 by omega)
   rcases (show a/2^j%2=0∨a/2^j%2=1 by omega) with hbit | hbit
   · obtain ⟨R2,hR2⟩:∃ R2,R1=R2:=⟨_,rfl⟩
     subst hR2
     by_cases hge:b≤R1
     · obtain ⟨d,hd⟩:∃ d,R1-b=d:=⟨_,rfl⟩
       obtain ⟨h1,h2,h3⟩:=HO.out.more HB0.out 0 R k s P x hbit O5.out (by omega) hk hs hP hxe hkl
       obtain ⟨y,hy⟩:∃ y,x+P=y:=⟨_,rfl⟩
       rw [hy] at h1 h2
       have HST:=Lib.hid h2
       have HRR:Hid (a/2^j%b=d):=by rw [Hid,h3];omega
       have q1:(x:Int)+(P:Int)=(y:Int):=by omega
       have q2:=wH h1
       have q3:=wI h1
       have HH:=Lib.hid (And.intro hj2 (And.intro hbit (And.intro hge (And.intro hd (And.intro GM (And.intro hxe (And.intro hRb (And.intro TJ (And.intro GL (And.intro hlb hwr))))))))))
       clear hk hs hP h1 h2 h3 hy HO O5 hj2 hbit hge hd GM hxe hRb TJ hkl hPb GL hlb hwr
       go_wp2_with (fail)
       refine (LW _ _ R 1 hR (by decide) (by have:=HH.out;have:=Ou.out R (by omega);omega) R1 HR1.out).mono ?_
       rintro e w3 ⟨v3,rfl,hv3,hf3,hB3⟩
       replace hf3:tX (B+1) v3:=hf3.mono HH.out.2.2.2.2.2.2.2.2.2.2
       replace qE:=U.below (U.fM qE) hB3
       replace ry:=U.below (U.fM ry) hB3
       replace hown:=hown.ext hB3
       replace hE:=hE.below hB3
       clear hB3 hR hf
       go_wp2_with (fail)
       refine (TH.out _ j HH.out.1 0 HH.out.2.1 qE).mono ?_
       rintro e w4 ⟨rfl,hB4⟩
       replace qE:=U.below (U.fM qE) hB4
       replace ry:=U.below (U.fM ry) hB4
       replace hv3:=U.below (U.fM hv3) hB4
       replace hown:=hown.ext hB4
       replace hE:=hE.below hB4
       clear hB4
       have hv5:=hv3
       have WE:=hf3
       clear hv3 hf3
       have O6:=hown.block.2
       go_wp2_with (fail)
       refine (LX _ _ _ R1 b hv5 ry (by have:=HH.out;have:=HR1.out;have:=Ou.out R1 (by omega);omega) (by have:=Yx.out;omega) true (by rw [decide_eq_true_iff];exact HH.out.2.2.1) d HH.out.2.2.2.1).mono ?_
       rintro e w6 ⟨v6,rfl,hv6,GN,zJ⟩
       replace GN:tX (B+1) v6:=GN.mono O6
       replace hown:=hown.ext zJ
       replace hE:=hE.below zJ
       replace hv5:=U.below (U.fM hv5) zJ
       clear zJ qE ry
       have hcz:=hown.rd.2 k HH.out.2.2.2.2.1
       rw [HH.out.2.2.2.2.2.1] at hcz
       have hfz:=hown.frozen' k
       have TF:But B w6 (w6.setCell ⟨B,k,none⟩ (.int .u32 (y:Nat))):=(But.refl B w6).setCell k _
       have hown2:=hown.set' k y
       have hv7:=U.apart (U.fM hv6) GN (Nat.lt_succ_self B) TF
       have hE2:=hE.setCell (p:=⟨B,k,none⟩) (by rw [Dl.out];exact Nat.le_refl _) (.int .u32 (y:Nat))
       clear hv5 WE hv6 hown hE TF O6
       go_wp2
       go_region
       all_goals
        go_wp2
        go_roundw
        case rel=>exact ⟨j,_,d,_,by omega,rfl,rfl,hv7,GN,HRR,HST,hown2.drew,hE2.drew⟩
        case measure=>simp [intOf]
     · obtain ⟨d,hd⟩:∃ d,R1-b=d:=⟨_,rfl⟩
       obtain ⟨h2,h3⟩:=HO.out.none 0 R hbit O5.out (by omega)
       have HST:=Lib.hid h2
       have HRR:Hid (a/2^j%b=R1):=by rw [Hid,h3];omega
       have HH:=Lib.hid (And.intro hj2 (And.intro hbit (And.intro hge (And.intro hd (And.intro GM (And.intro hxe (And.intro hRb (And.intro TJ (And.intro GL (And.intro hlb hwr))))))))))
       clear hk hs hP h2 h3 HO O5 hj2 hbit hge hd GM hxe hRb TJ hkl hPb GL hlb hwr
       go_wp2_with (fail)
       refine (LW _ _ R 1 hR (by decide) (by have:=HH.out;have:=Ou.out R (by omega);omega) R1 HR1.out).mono ?_
       rintro e w3 ⟨v3,rfl,hv3,hf3,hB3⟩
       replace hf3:tX (B+1) v3:=hf3.mono HH.out.2.2.2.2.2.2.2.2.2.2
       replace qE:=U.below (U.fM qE) hB3
       replace ry:=U.below (U.fM ry) hB3
       replace hown:=hown.ext hB3
       replace hE:=hE.below hB3
       clear hB3 hR hf
       go_wp2_with (fail)
       refine (TH.out _ j HH.out.1 0 HH.out.2.1 qE).mono ?_
       rintro e w4 ⟨rfl,hB4⟩
       replace qE:=U.below (U.fM qE) hB4
       replace ry:=U.below (U.fM ry) hB4
       replace hv3:=U.below (U.fM hv3) hB4
       replace hown:=hown.ext hB4
       replace hE:=hE.below hB4
       clear hB4
       have hv5:=hv3
       have WE:=hf3
       clear hv3 hf3
       have O6:=hown.block.2
       go_wp2_with (fail)
       refine (LX _ _ _ R1 b hv5 ry (by have:=HH.out;have:=HR1.out;have:=Ou.out R1 (by omega);omega) (by have:=Yx.out;omega) false (by rw [decide_eq_false_iff_not];exact HH.out.2.2.1) d HH.out.2.2.2.1).mono ?_
       rintro e w6 ⟨v6,rfl,hv6,GN,zJ⟩
       replace GN:tX (B+1) v6:=GN.mono O6
       replace hown:=hown.ext zJ
       replace hE:=hE.below zJ
       replace hv5:=U.below (U.fM hv5) zJ
       clear zJ qE ry
       clear hv6 GN O6
       go_wp2
       go_roundw
       case rel=>exact ⟨j,_,R1,_,by omega,rfl,rfl,hv5,WE,HRR,HST,hown,hE⟩
       case measure=>simp [intOf]
   · obtain ⟨R2,hR2⟩:∃ R2,R1+1=R2:=⟨_,rfl⟩
     have HR2:=Lib.hid hR2
     by_cases hge:b≤R2
     · obtain ⟨d,hd⟩:∃ d,R2-b=d:=⟨_,rfl⟩
       obtain ⟨h1,h2,h3⟩:=HO.out.more HB0.out 1 R k s P x hbit O5.out (by omega) hk hs hP hxe hkl
       obtain ⟨y,hy⟩:∃ y,x+P=y:=⟨_,rfl⟩
       rw [hy] at h1 h2
       have HST:=Lib.hid h2
       have HRR:Hid (a/2^j%b=d):=by rw [Hid,h3];omega
       have q1:(x:Int)+(P:Int)=(y:Int):=by omega
       have q2:=wH h1
       have q3:=wI h1
       have HH:=Lib.hid (And.intro hj2 (And.intro hbit (And.intro hge (And.intro hd (And.intro GM (And.intro hxe (And.intro hRb (And.intro TJ (And.intro GL (And.intro hlb hwr))))))))))
       clear hk hs hP h1 h2 h3 hy HO O5 hj2 hbit hge hd GM hxe hRb TJ hkl hPb GL hlb hwr hR2
       go_wp2_with (fail)
       refine (LW _ _ R 1 hR (by decide) (by have:=HH.out;have:=Ou.out R (by omega);omega) R1 HR1.out).mono ?_
       rintro e w3 ⟨v3,rfl,hv3,hf3,hB3⟩
       replace hf3:tX (B+1) v3:=hf3.mono HH.out.2.2.2.2.2.2.2.2.2.2
       replace qE:=U.below (U.fM qE) hB3
       replace ry:=U.below (U.fM ry) hB3
       replace hown:=hown.ext hB3
       replace hE:=hE.below hB3
       clear hB3 hR hf
       go_wp2_with (fail)
       refine (TH.out _ j HH.out.1 1 HH.out.2.1 qE).mono ?_
       rintro e w4 ⟨rfl,hB4⟩
       replace qE:=U.below (U.fM qE) hB4
       replace ry:=U.below (U.fM ry) hB4
       replace hv3:=U.below (U.fM hv3) hB4
       replace hown:=hown.ext hB4
       replace hE:=hE.below hB4
       clear hB4
       have hl:=Lib.hid (tV w4)
       have hw4:=hown.block.2
       go_wp2_with (fail)
       refine (VA _ _ _ R1 1 (U.alloc (U.fM hv3) _) hl.out (by have:=HH.out;have:=HR1.out;have:=Ou.out R1 (by omega);omega) (by have:=GJ;rw [mD 1 (by decide) (by decide)];simp) R2 HR2.out).mono ?_
       rintro e w5 ⟨v5,rfl,hv5,Y7,O7⟩
       have WE:tX (B+1) v5:=Y7.mono (by simp;omega)
       replace qE:=U.below (U.alloc (U.fM qE) _) O7
       replace ry:=U.below (U.alloc (U.fM ry) _) O7
       replace hown:=(hown.alloc _).ext O7
       replace hE:=(hE.alloc _).below O7
       clear O7 Y7 hv3 hf3 hl hw4
       have O6:=hown.block.2
       go_wp2_with (fail)
       refine (LX _ _ _ R2 b hv5 ry (by have:=HH.out;have:=HR1.out;have:=HR2.out;have:=Ou.out R2 (by omega);omega) (by have:=Yx.out;omega) true (by rw [decide_eq_true_iff];exact HH.out.2.2.1) d HH.out.2.2.2.1).mono ?_
       rintro e w6 ⟨v6,rfl,hv6,GN,zJ⟩
       replace GN:tX (B+1) v6:=GN.mono O6
       replace hown:=hown.ext zJ
       replace hE:=hE.below zJ
       replace hv5:=U.below (U.fM hv5) zJ
       clear zJ qE ry
       have hcz:=hown.rd.2 k HH.out.2.2.2.2.1
       rw [HH.out.2.2.2.2.2.1] at hcz
       have hfz:=hown.frozen' k
       have TF:But B w6 (w6.setCell ⟨B,k,none⟩ (.int .u32 (y:Nat))):=(But.refl B w6).setCell k _
       have hown2:=hown.set' k y
       have hv7:=U.apart (U.fM hv6) GN (Nat.lt_succ_self B) TF
       have hE2:=hE.setCell (p:=⟨B,k,none⟩) (by rw [Dl.out];exact Nat.le_refl _) (.int .u32 (y:Nat))
       clear hv5 WE hv6 hown hE TF O6
       go_wp2
       go_region
       all_goals
        go_wp2
        go_roundw
        case rel=>exact ⟨j,_,d,_,by omega,rfl,rfl,hv7,GN,HRR,HST,hown2.drew,hE2.drew⟩
        case measure=>simp [intOf]
     · obtain ⟨d,hd⟩:∃ d,R2-b=d:=⟨_,rfl⟩
       obtain ⟨h2,h3⟩:=HO.out.none 1 R hbit O5.out (by omega)
       have HST:=Lib.hid h2
       have HRR:Hid (a/2^j%b=R2):=by rw [Hid,h3];omega
       have HH:=Lib.hid (And.intro hj2 (And.intro hbit (And.intro hge (And.intro hd (And.intro GM (And.intro hxe (And.intro hRb (And.intro TJ (And.intro GL (And.intro hlb hwr))))))))))
       clear hk hs hP h2 h3 HO O5 hj2 hbit hge hd GM hxe hRb TJ hkl hPb GL hlb hwr hR2
       go_wp2_with (fail)
       refine (LW _ _ R 1 hR (by decide) (by have:=HH.out;have:=Ou.out R (by omega);omega) R1 HR1.out).mono ?_
       rintro e w3 ⟨v3,rfl,hv3,hf3,hB3⟩
       replace hf3:tX (B+1) v3:=hf3.mono HH.out.2.2.2.2.2.2.2.2.2.2
       replace qE:=U.below (U.fM qE) hB3
       replace ry:=U.below (U.fM ry) hB3
       replace hown:=hown.ext hB3
       replace hE:=hE.below hB3
       clear hB3 hR hf
       go_wp2_with (fail)
       refine (TH.out _ j HH.out.1 1 HH.out.2.1 qE).mono ?_
       rintro e w4 ⟨rfl,hB4⟩
       replace qE:=U.below (U.fM qE) hB4
       replace ry:=U.below (U.fM ry) hB4
       replace hv3:=U.below (U.fM hv3) hB4
       replace hown:=hown.ext hB4
       replace hE:=hE.below hB4
       clear hB4
       have hl:=Lib.hid (tV w4)
       have hw4:=hown.block.2
       go_wp2_with (fail)
       refine (VA _ _ _ R1 1 (U.alloc (U.fM hv3) _) hl.out (by have:=HH.out;have:=HR1.out;have:=Ou.out R1 (by omega);omega) (by have:=GJ;rw [mD 1 (by decide) (by decide)];simp) R2 HR2.out).mono ?_
       rintro e w5 ⟨v5,rfl,hv5,Y7,O7⟩
       have WE:tX (B+1) v5:=Y7.mono (by simp;omega)
       replace qE:=U.below (U.alloc (U.fM qE) _) O7
       replace ry:=U.below (U.alloc (U.fM ry) _) O7
       replace hown:=(hown.alloc _).ext O7
       replace hE:=(hE.alloc _).below O7
       clear O7 Y7 hv3 hf3 hl hw4
       have O6:=hown.block.2
       go_wp2_with (fail)
       refine (LX _ _ _ R2 b hv5 ry (by have:=HH.out;have:=HR1.out;have:=HR2.out;have:=Ou.out R2 (by omega);omega) (by have:=Yx.out;omega) false (by rw [decide_eq_false_iff_not];exact HH.out.2.2.1) d HH.out.2.2.2.1).mono ?_
       rintro e w6 ⟨v6,rfl,hv6,GN,zJ⟩
       replace GN:tX (B+1) v6:=GN.mono O6
       replace hown:=hown.ext zJ
       replace hE:=hE.below zJ
       replace hv5:=U.below (U.fM hv5) zJ
       clear zJ qE ry
       clear hv6 GN O6
       go_wp2
       go_roundw
       case rel=>exact ⟨j,_,R2,_,by omega,rfl,rfl,hv5,WE,HRR,HST,hown,hE⟩
       case measure=>simp [intOf]
end Go.Proofs.YtdpmbgomcjnohaaGreatDoor
/- Naturals in slices, in the walk by plans. -/
namespace Go.Proofs.YtdpmbgomcjnohaaGreatDoor
open Go.RowKit
set_option linter.all false
set_option maxRecDepth 100000
set_option maxHeartbeats 8000000
def Sn (n K:Nat):Prop:=(limbs n).length≤K
theorem Sn.le {n K M:Nat} (h:Sn n K) (hk:K≤M):Sn n M:=Nat.le_trans h hk
theorem Sn.zero {K:Nat}:Sn 0 K:=by show (limbs 0).length≤K;rw [aX];exact Nat.zero_le _
theorem Sn.lt {n K:Nat} (h:Sn n K):n<4294967296^K:=cO h
theorem Sn.of {n K:Nat} (h:n<4294967296^K):Sn n K:=iO h
theorem Sn.small {n K:Nat} (h:n<4294967296∧1≤K):Sn n K:=Nat.le_trans (iO (k:=1) (by rw [Nat.pow_one];exact h.1)) h.2
theorem Sn.down {n m K:Nat} (h:Sn n K) (hm:m≤n):Sn m K:=Sn.of (Nat.lt_of_le_of_lt hm h.lt)
theorem Sn.add {a b K J M:Nat} (ha:Sn a K) (hb:Sn b J) (hk:K+1≤M) (hj:J+1≤M):Sn (a+b) M:=by
 obtain ⟨m,rfl⟩:∃ m,M=m+1:=⟨M-1,by omega⟩
 have h1:=(ha.le (show K≤m by omega)).lt
 have h2:=(hb.le (show J≤m by omega)).lt
 refine Sn.of ?_
 rw [Nat.pow_succ]
 omega
theorem Sn.mul {a b K J M:Nat} (ha:Sn a K) (hb:Sn b J) (hk:K+J≤M):Sn (a*b) M:=by
 refine Sn.of (Nat.lt_of_lt_of_le (Nat.mul_lt_mul'' ha.lt hb.lt) ?_)
 rw [← Nat.pow_add]
 exact Nat.pow_le_pow_right (by decide) hk
theorem Sn.div {a b K:Nat} (h:Sn a K):Sn (a/b) K:=h.down (Nat.div_le_self _ _)
theorem Sn.mod {a b K:Nat} (h:Sn b K) (h0:b≠0):Sn (a%b) K:=h.down (Nat.le_of_lt (Nat.mod_lt _ (Nat.pos_of_ne_zero h0)))
theorem Sn.sz {n K:Nat} (h:Sn n K):Sz (n:Int) K:=h
theorem Sz.sn {z:Int} {K:Nat} (h:Sz z K):Sn z.natAbs K:=h
theorem Un.nil (w:World) (A:Option Addr) (c:Nat):Un w (.slice A 0 c) 0:=by rw [Un,aX];exact U.uW _ _ _
theorem Uz {n:Nat} (h:0<n):(0:Int)<((limbs n).length:Int):=by
 rw [d9 (by omega)];simp
theorem KG {n:Nat} (h:n=0):¬ (0:Int)<((limbs n).length:Int):=by
 subst h;rw [aX];simp
theorem U.one {w:World} {v:Value} (h:U w v [1]):Un w v 1:=by
 show U w _ (limbs 1)
 have e:limbs 1=[1]:=by rw [d9 (by decide),show (1:Nat)%4294967296=1 from rfl,show (1:Nat)/4294967296=0 from rfl,aX]
 rw [e];exact h
end Go.Proofs.YtdpmbgomcjnohaaGreatDoor
