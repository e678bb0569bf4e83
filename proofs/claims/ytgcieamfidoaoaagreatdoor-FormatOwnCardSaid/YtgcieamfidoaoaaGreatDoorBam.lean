/- The document's division, bit by bit. -/
import Derived.Test.YtgcieamfidoaoaaGreatDoorBak
import Derived.Test.YtgcieamfidoaoaaGreatDoorBal
import Derived.Test.YtgcieamfidoaoaaGreatDoorBab
import Derived.Laws.IdiomArrays
import Derived.WideKeyPair
import Derived.WideKeyArr2
import Derived.Scope
set_option linter.all false
set_option maxHeartbeats 8000000
namespace Go.Proofs.YtgcieamfidoaoaaGreatDoor
open Go.RowKit
theorem XR (o:List Nat) (k:Nat) (hx:∀ x∈o,x<4294967296):lb o k=val o/4294967296^k%4294967296:=by
 rw [← Hy o k hx]
 rcases Nat.lt_or_ge k o.length with h | h
 · rw [qa o k h,Nat.add_mul_mod_self_left,Nat.mod_eq_of_lt (dz hx k)]
 · rw [oI h,List.drop_eq_nil_of_le h];rfl
structure EZ (a b La j:Nat) (o:List Nat):Prop where
 len:o.length=La
 lt:∀ x∈o,x<4294967296
 val:val o=a/2^j/b*2^j
theorem LQ (a j:Nat):a/2^j=2*(a/2^(j+1))+a/2^j%2:=by
 rw [Nat.pow_succ,← Nat.div_div_eq_div_mul]
 exact (Nat.div_add_mod _ _).symm
theorem EZ.none {a b La j:Nat} {o:List Nat} (h:EZ a b La (j+1) o) (bit r:Nat) (hb:a/2^j%2=bit) (hr:a/2^(j+1)%b=r) (hlt:2*r+bit<b):EZ a b La j o∧a/2^j%b=2*r+bit:=by
 have h1:=LQ a j
 rw [hb] at h1
 obtain ⟨h2,h3⟩:=XH (a/2^(j+1)) b bit _ r rfl hr hlt
 refine ⟨⟨h.len,h.lt,?_⟩,by rw [h1];exact h3⟩
 rw [h.val,h1,h2,Nat.pow_succ,Nat.mul_comm (2^j) 2,← Nat.mul_assoc,Nat.mul_comm _ 2]
theorem EZ.more {a b La j:Nat} {o:List Nat} (h:EZ a b La (j+1) o) (hb0:0<b) (bit r k s P x:Nat) (hb:a/2^j%2=bit) (hr:a/2^(j+1)%b=r) (hge:b≤2*r+bit) (hk:j/32=k) (hs:j%32=s) (hP:2^s=P) (hx:lb o k=x) (hkl:k<La) :
  x+P<4294967296∧EZ a b La j (o.set k (x+P))∧a/2^j%b=2*r+bit-b:=by
 have h1:=LQ a j
 rw [hb] at h1
 have hbit:bit≤1:=by omega
 obtain ⟨h2,h3⟩:=TJ (a/2^(j+1)) b bit _ r hb0 hbit rfl hr hge
 have hjs:j+1=32*k+(s+1):=by omega
 have ad6:s<32:=by omega
 have h4:=XR o k h.lt
 rw [h.val,hx,hjs,Nat.pow_add,EY,Nat.mul_comm (2^(32*k)),← Nat.mul_assoc,Nat.mul_div_cancel _ (Nat.two_pow_pos _)] at h4
 have h5:x+P<4294967296:=by
  obtain ⟨d,hd⟩:∃ d,32=s+1+d:=⟨31-s,by omega⟩
  have e1:(4294967296:Nat)=2^(s+1)*2^d:=by rw [← Nat.pow_add,← hd]
  generalize a/(2^(s+1)*2^(32*k))/b=Q at h4
  rw [e1,Nat.mul_comm Q,Nat.mul_mod_mul_left] at h4
  have e2:Q%2^d<2^d:=Nat.mod_lt _ (Nat.two_pow_pos _)
  have e3:2^(s+1)*(Q%2^d+1)≤2^(s+1)*2^d:=Nat.mul_le_mul_left _ e2
  have e4:2^(s+1)=P*2:=by rw [Nat.pow_succ,hP]
  have e5:0<P:=by rw [← hP];exact Nat.two_pow_pos _
  rw [Nat.mul_add,Nat.mul_one] at e3
  omega
 refine ⟨h5,⟨by simp [h.len],iQ h.lt h5,?_⟩,by rw [h1];exact h3⟩
 have h6:=qR o k (x+P) (by rw [h.len];exact hkl)
 rw [hx,h.val,Nat.add_mul] at h6
 have h7:P*4294967296^k=2^j:=by rw [← hP,EY,← Nat.pow_add];congr 1;omega
 rw [h7] at h6
 have h8:a/2^j/b*2^j=a/2^(j+1)/b*2^(j+1)+2^j:=by
  rw [h1,h2,Nat.add_mul,Nat.one_mul,Nat.pow_succ,Nat.mul_comm (2^j) 2,← Nat.mul_assoc,Nat.mul_comm _ 2]
 rw [h8]
 omega
end Go.Proofs.YtgcieamfidoaoaaGreatDoor
/- The same contracts, with where the answers lie: in blocks that the call has made. -/
namespace Go.Proofs.YtgcieamfidoaoaaGreatDoor
open Go.RowKit
set_option maxRecDepth 100000
attribute [local go_sem ↓] oL
attribute [local go_sem] iy
def wh (b:Nat) (v:Value):Prop:=∀ (ad:Addr) (n c:Nat),v = .slice (some ad) n c→b≤ad.block
theorem wh.mono {b b':Nat} {v:Value} (h:wh b v) (hb:b'≤b):wh b' v:=fun ad n c e=>Nat.le_trans hb (h ad n c e)
theorem wh.yX (b n c:Nat):wh b (.slice none n c):=fun ad n c e=>by cases e
theorem Own.fr {w:World} {base:Nat} {v:Value} {o:List Nat} (h:Own w base v o):wh base v:=by
 rcases h.2 with hn | ⟨g,cap,cur,rfl,hb,_⟩
 · intro ad n c e
   rw [hn.1] at e;cases e
 · intro ad n c e
   injection e with e1 _ _
   injection e1 with e1
   subst e1
   exact hb
theorem U.apart {w w':World} {B b:Nat} {v:Value} {xs:List Nat} (h:U w v xs) (hf:wh b v) (hB:B<b) (hb:But B w w'):U w' v xs:=by
 obtain ⟨A,c,rfl,hc,hx,hr⟩:=h
 refine ⟨A,c,rfl,hc,hx,fun h0=>?_⟩
 obtain ⟨ad,hA,hbk,hcell⟩:=hr h0
 subst hA
 have:=hf ad _ _ rfl
 exact ⟨ad,rfl,by have:=hb.size;omega,fun j hj=>(hb.cell (by rw [aL];exact hbk) (by rw [aL];omega)).trans (hcell j hj)⟩
theorem qV (w:World) (v:Value) (xs:List Nat) (h:U w v xs) (hlen:xs.length≤1000000000) :
  Calls Tryz.prog 100 #[v] w fun e w'=>(∃ u,e = .returned u∧U w' u (limbs (val xs))∧wh w.heap.size u)∧Below w.heap.size w w':=by
 have h':=h
 obtain ⟨A,c,rfl,⟨hc,hm⟩,hx,hr⟩:=h
 go_enter Tryz.func100,Tryz.ntmps100
 go_wp2
 go_loop [3] (fun n=>∃ k:Nat,k≤xs.length∧n = .int .i64 k∧Hid (∀ j,k≤j→j<xs.length→lb xs j=0)) (fun n=>(intOf n).toNat)
 case atStart=>exact ⟨xs.length,Nat.le_refl _,rfl,fun j h1 h2=>by omega⟩
 case round =>
  obtain ⟨k,hk,rfl,hz⟩:=hrel
  have hfin:(0<k→lb xs (k-1)≠0)→∃ v' w',(Builtin.append_ #[24,24] 24 #[.slice (some ⟨w.heap.size,0,none⟩) 0 0,.slice A k c]).run Tryz.prog (w.alloc (.cells #[] 57)) = .ok v' w'∧(U w' v' (limbs (val xs))∧wh w.heap.size v')∧Below w.heap.size w w':=fun h2=>by
   have hB:Below w.heap.size w (w.alloc (.cells #[] 57)):=(Below.refl _ _).alloc (Nat.le_refl _) _
   have hown:Own (w.alloc (.cells #[] 57)) w.heap.size (.slice (some ⟨w.heap.size,0,none⟩) 0 0) []:=World.ownsRow_lit w #[] 0 (Nat.le_refl _) (Nat.zero_le _) rfl
   have hu:U w (.slice A k c) (xs.take k):=h'.take hk (by omega)
   have htl:(xs.take k).length=k:=by simp;omega
   obtain ⟨v',w',hrun,ho,hg⟩:=qW _ w.heap.size _ [] hown _ _ (hu.below hB) (by rw [htl];simp;omega) hB.size
   refine ⟨v',w',hrun,?_,hB.grown hg hB.size (fun j e=>by cases e;exact Nat.le_refl _)⟩
   refine ⟨?_,ho.fr⟩
   rw [xx xs k hx hk hz.out h2]
   rw [List.nil_append] at ho
   exact ho.BJ (fun x hx'=>hx x (List.mem_of_mem_take hx')) (by rw [htl];omega)
  rcases Nat.eq_zero_or_pos k with rfl | h0
  · obtain ⟨v',w',hrun,HU,HB⟩:=hfin (fun h=>absurd h (by omega))
    obtain ⟨t1,t2,t3⟩:=jc hrun
    clear hfin hrun
    go_wp2
    go_ret
    exact ⟨⟨_,rfl,HU⟩,HB⟩
  · obtain ⟨ad,rfl,hb,hcell⟩:=hr (by omega)
    have hc1:=hcell (k-1) (by omega)
    by_cases hx0:lb xs (k-1)=0
    · have ht:((((lb xs (k-1):Nat)):Int)==0)=true:=by rw [hx0];rfl
      have HX:=Lib.hid hx0
      clear hx0 hfin
      go_wp2
      go_round
      case rel=>exact ⟨k-1,by omega,by go_num,fun j h1 h2=>by
       rcases Nat.lt_or_ge j k with h3 | h3
       · have:j=k-1:=by omega
         subst this;exact HX.out
       · exact hz.out j h3 h2⟩
      case measure=>simp [intOf];omega
    · have ht:((((lb xs (k-1):Nat)):Int)==0)=false:=by rw [beq_eq_false_iff_ne];omega
      obtain ⟨v',w',hrun,HU,HB⟩:=hfin (fun _=>hx0)
      obtain ⟨t1,t2,t3⟩:=jc hrun
      clear hfin hrun hx0
      go_wp2
      go_ret
      exact ⟨⟨_,rfl,HU⟩,HB⟩
set_option maxRecDepth 100000 in
theorem H8 (w:World) (v u:Value) (xs ys:List Nat) (h:U w v xs) (g:U w u ys) (hl:xs.length≤100000000) (hl2:ys.length≤100000000) :
  Calls Tryz.prog 77 #[v,u] w fun e w'=>(∃ z,e = .returned z∧U w' z (limbs (val xs+val ys))∧wh w.heap.size z)∧Below w.heap.size w w':=by
 obtain ⟨A,c,rfl,⟨hc,hm⟩,hx,hr⟩:=id h
 obtain ⟨A2,c2,rfl,⟨hc2,hm2⟩,hx2,hr2⟩:=id g
 clear hr hr2
 go_enter Tryz.func77,Tryz.ntmps77
 go_wp2_with (fail)
 have hown0:Own (w.alloc (.cells #[] 57)) w.heap.size (.slice (some ⟨w.heap.size,0,none⟩) 0 0) []:=World.ownsRow_lit w #[] 0 (Nat.le_refl _) (Nat.zero_le _) rfl
 have hB0:Below w.heap.size w (w.alloc (.cells #[] 57)):=(Below.refl _ _).alloc (Nat.le_refl _) _
 go_loopw [5,6,7] (fun s cv i wr=>∃ (k cy:Nat) (o:List Nat),k≤max xs.length ys.length+1∧i = .int .i64 k∧cv = .int .u64 cy∧Hid (wm xs ys k o cy)∧Own wr w.heap.size s o∧Below w.heap.size w wr) (fun _ _ i _=>max xs.length ys.length+2-(intOf i).toNat)
 case atStart=>exact ⟨0,0,[],Nat.zero_le _,rfl,rfl,wm.start xs ys,hown0,hB0⟩
 case round =>
  clear hown0 hB0
  obtain ⟨k,cy,o,hk,rfl,rfl,HO,hown,hB⟩:=hrel
  by_cases hd1:k≤xs.length
  · have h1:=dz hx k
    have h2:=dz hx2 k
    have h3:=HO.out.carry
    have hlen:=HO.out.len
    obtain ⟨x1,hx1⟩:∃ x1,(lb xs k+lb ys k+cy)%4294967296=x1:=⟨_,rfl⟩
    obtain ⟨c1,hc1⟩:∃ c1,(lb xs k+lb ys k+cy)/4294967296=c1:=⟨_,rfl⟩
    have NH:Hid (wm xs ys (k+1) (o++[x1]) c1):=by rw [Hid,← hx1,← hc1];exact HO.out.step hx hx2
    obtain ⟨v',w',hrun,hown',hB'⟩:=lH hB hown ((((lb xs k:Nat):Int)+((lb ys k:Nat):Int)+(cy:Int))%4294967296) x1 (by rw [← hx1];omega) (by rw [← hx1];exact Nat.mod_lt _ (by decide)) (by omega)
    obtain ⟨t1,t2,t3⟩:=jc hrun
    have hk2:k+1≤max xs.length ys.length+1:=by omega
    have NI:Hid ((((lb xs k:Nat):Int)+((lb ys k:Nat):Int)+(cy:Int))/4294967296=(c1:Int)):=by rw [Hid,← hc1];omega
    clear hrun hx1 hc1 hlen
    go_wp2_with (fail)
    refine (dB _ _ xs _ k rfl (h.below hB)).mono ?_
    rintro e w' ⟨rfl,rfl⟩
    go_wp2_with (fail)
    refine (dB _ _ ys _ k rfl (g.below hB)).mono ?_
    rintro e w' ⟨rfl,rfl⟩
    go_wp2_with (fail)
    go_roundw
    case rel=>exact ⟨k+1,c1,_,hk2,by go_num,by rw [NI.out],NH,hown',hB'⟩
    case measure=>simp [intOf];omega
  · by_cases hd2:k≤ys.length
    · have h1:=dz hx k
      have h2:=dz hx2 k
      have h3:=HO.out.carry
      have hlen:=HO.out.len
      obtain ⟨x1,hx1⟩:∃ x1,(lb xs k+lb ys k+cy)%4294967296=x1:=⟨_,rfl⟩
      obtain ⟨c1,hc1⟩:∃ c1,(lb xs k+lb ys k+cy)/4294967296=c1:=⟨_,rfl⟩
      have NH:Hid (wm xs ys (k+1) (o++[x1]) c1):=by rw [Hid,← hx1,← hc1];exact HO.out.step hx hx2
      obtain ⟨v',w',hrun,hown',hB'⟩:=lH hB hown ((((lb xs k:Nat):Int)+((lb ys k:Nat):Int)+(cy:Int))%4294967296) x1 (by rw [← hx1];omega) (by rw [← hx1];exact Nat.mod_lt _ (by decide)) (by omega)
      obtain ⟨t1,t2,t3⟩:=jc hrun
      have hk2:k+1≤max xs.length ys.length+1:=by omega
      have NI:Hid ((((lb xs k:Nat):Int)+((lb ys k:Nat):Int)+(cy:Int))/4294967296=(c1:Int)):=by rw [Hid,← hc1];omega
      clear hrun hx1 hc1 hlen
      go_wp2_with (fail)
      refine (dB _ _ xs _ k rfl (h.below hB)).mono ?_
      rintro e w' ⟨rfl,rfl⟩
      go_wp2_with (fail)
      refine (dB _ _ ys _ k rfl (g.below hB)).mono ?_
      rintro e w' ⟨rfl,rfl⟩
      go_wp2_with (fail)
      go_roundw
      case rel=>exact ⟨k+1,c1,_,hk2,by go_num,by rw [NI.out],NH,hown',hB'⟩
      case measure=>simp [intOf];omega
    · have hlen:=HO.out.len
      obtain ⟨j,rfl⟩:∃ j,k=j+1:=⟨k-1,by omega⟩
      have HV:Hid (val o=val xs+val ys):=HO.out.done hx hx2 (by omega) (by omega)
      have hu:=hown.BJ HO.out.lt (by omega)
      have hol:o.length≤1000000000:=by omega
      clear hlen
      go_wp2_with (fail)
      refine (qV _ _ _ hu hol).mono ?_
      rintro e w' ⟨⟨z,rfl,hz,hf⟩,hB2⟩
      have hf2:Hid (wh w.heap.size z):=hf.mono hB.size
      clear hf
      rw [HV.out] at hz
      replace hB:=Below.trans hB (Below.mono hB2 hB.size)
      go_wp2
      go_ret
      exact ⟨⟨_,rfl,hz,hf2.out⟩,hB⟩
set_option maxRecDepth 100000 in
theorem H9 (w:World) (v u:Value) (n m:Nat) (h:Un w v n) (g:Un w u m) (hl:(limbs n).length≤100000000) (hl2:(limbs m).length≤100000000) (b:Bool) (hb:decide (m≤n)=b) (d:Nat) (hd:n-m=d) :
  Calls Tryz.prog 85 #[v,u] w fun e w'=>(∃ z,e = .returned (.tuple #[z,.bool b])∧Un w' z d∧wh w.heap.size z)∧Below w.heap.size w w':=by
 obtain ⟨A,c,rfl,⟨hc,hm⟩,hx,hr⟩:=id h
 obtain ⟨A2,c2,rfl,⟨hc2,hm2⟩,hx2,hr2⟩:=id g
 clear hr hr2
 rcases Nat.lt_or_ge n m with hlt | hge
 · have HF:Hid (bN (val (limbs n):Nat) (val (limbs m):Nat) = -1):=by rw [Hid,aJ,aJ];exact lV (Int.ofNat_lt.2 hlt)
   obtain rfl:d=0:=by omega
   obtain rfl:b=false:=by rw [← hb,decide_eq_false_iff_not];omega
   clear hb hd hlt
   go_enter Tryz.func85,Tryz.ntmps85
   go_wp2_with (fail)
   refine (oM _ _ _ _ _ h g (by omega) (by omega)).mono ?_
   rintro e w' ⟨rfl,rfl⟩
   rw [HF.out]
   go_wp2
   go_ret2
   exact ⟨⟨_,rfl,J3 _,wh.yX _ _ _⟩,Below.refl _ _⟩
 · have HF:Hid (0≤bN (val (limbs n):Nat) (val (limbs m):Nat)):=by
    rw [Hid,aJ,aJ]
    rcases Nat.lt_or_ge m n with h1 | h1
    · rw [ni (Int.ofNat_lt.2 h1)];decide
    · obtain rfl:n=m:=by omega
      rw [qQ];decide
   obtain rfl:b=true:=by rw [← hb,decide_eq_true_iff];omega
   have HD:=Lib.hid hd
   have HG:=Lib.hid hge
   have hll:=jr hge
   clear hb hd hge
   obtain ⟨K,hK⟩:∃ K,bN (val (limbs n):Nat) (val (limbs m):Nat)=K:=⟨_,rfl⟩
   have hK0:0≤K:=by rw [← hK];exact HF.out
   clear HF
   go_enter Tryz.func85,Tryz.ntmps85
   go_wp2_with (fail)
   refine (oM _ _ _ _ _ h g (by omega) (by omega)).mono ?_
   rintro e w' ⟨rfl,rfl⟩
   rw [hK]
   clear hK
   go_wp2_with (fail)
   have hown0:Own (w.alloc (.cells #[] 57)) w.heap.size (.slice (some ⟨w.heap.size,0,none⟩) 0 0) []:=World.ownsRow_lit w #[] 0 (Nat.le_refl _) (Nat.zero_le _) rfl
   have hB0:Below w.heap.size w (w.alloc (.cells #[] 57)):=(Below.refl _ _).alloc (Nat.le_refl _) _
   go_loopw [6,7,8] (fun s cv i wr=>∃ (k cy:Nat) (o:List Nat),k≤(limbs n).length∧i = .int .i64 k∧cv = .int .u64 cy∧Hid (yY (limbs n) (limbs m) k o cy)∧Own wr w.heap.size s o∧Below w.heap.size w wr) (fun _ _ i _=>(limbs n).length-(intOf i).toNat)
   case atStart=>exact ⟨0,0,[],Nat.zero_le _,rfl,rfl,yY.start _ _,hown0,hB0⟩
   case round =>
    clear hown0 hB0
    obtain ⟨k,cy,o,hk,rfl,rfl,HO,hown,hB⟩:=hrel
    by_cases hd1:k<(limbs n).length
    · have h1:=dz hx k
      have h2:=dz hx2 k
      have h3:=HO.out.carry
      have hlen:=HO.out.len
      obtain ⟨x1,hx1⟩:∃ x1,(4294967296+lb (limbs n) k-lb (limbs m) k-cy)%4294967296=x1:=⟨_,rfl⟩
      obtain ⟨c1,hc1⟩:∃ c1,1-(4294967296+lb (limbs n) k-lb (limbs m) k-cy)/4294967296=c1:=⟨_,rfl⟩
      have NH:Hid (yY (limbs n) (limbs m) (k+1) (o++[x1]) c1):=by rw [Hid,← hx1,← hc1];exact HO.out.step hx hx2
      obtain ⟨v',w',hrun,hown',hB'⟩:=lH hB hown ((4294967296+((lb (limbs n) k:Nat):Int)-((lb (limbs m) k:Nat):Int)-(cy:Int))%4294967296) x1 (by rw [← hx1];omega) (by rw [← hx1];exact Nat.mod_lt _ (by decide)) (by omega)
      obtain ⟨t1,t2,t3⟩:=jc hrun
      have NI:Hid (1-(4294967296+((lb (limbs n) k:Nat):Int)-((lb (limbs m) k:Nat):Int)-(cy:Int))/4294967296=(c1:Int)):=by rw [Hid,← hc1];omega
      clear hrun hx1 hc1 hlen
      go_wp2_with (fail)
      refine (dB _ _ (limbs n) _ k rfl (U.below h hB)).mono ?_
      rintro e w' ⟨rfl,rfl⟩
      go_wp2_with (fail)
      refine (dB _ _ (limbs m) _ k rfl (U.below g hB)).mono ?_
      rintro e w' ⟨rfl,rfl⟩
      go_wp2_with (fail)
      go_roundw
      case rel=>exact ⟨k+1,c1,_,by omega,by go_num,by rw [NI.out],NH,hown',hB'⟩
      case measure=>simp [intOf];omega
    · have hlen:=HO.out.len
      obtain rfl:k=(limbs n).length:=by omega
      have HV:Hid (val o=d):=by rw [Hid,HO.out.done hll (by rw [aJ,aJ];exact HG.out),aJ,aJ];exact HD.out
      have hu:=hown.BJ HO.out.lt (by omega)
      have hol:o.length≤1000000000:=by omega
      clear hlen
      go_wp2_with (fail)
      refine (qV _ _ _ hu hol).mono ?_
      rintro e w' ⟨⟨z,rfl,hz,hf⟩,hB2⟩
      have hf2:Hid (wh w.heap.size z):=hf.mono hB.size
      clear hf
      have hz2:Un w' z d:=by rw [← HV.out];exact hz
      replace hB:=Below.trans hB (Below.mono hB2 hB.size)
      clear hz
      go_wp2
      go_ret2
      exact ⟨⟨_,rfl,hz2,hf2.out⟩,hB⟩
set_option maxRecDepth 100000 in
theorem Ia (w:World) (v:Value) (n:Nat) (k0:Nat) (hk:k0≤100000000) (h:Un w v n) (hl:(limbs n).length≤100000000) :
  Calls Tryz.prog 132 #[v,.int .i64 (k0:Int)] w fun e w'=>(∃ u,e = .returned u∧Un w' u (n*2^k0)∧wh w.heap.size u)∧Below w.heap.size w w':=by
 obtain ⟨A,c,rfl,⟨hc,hm⟩,hx,hr⟩:=id h
 clear hr
 obtain ⟨Q,hQ⟩:∃ Q,k0/32=Q:=⟨_,rfl⟩
 obtain ⟨S,hS⟩:∃ S,k0%32=S:=⟨_,rfl⟩
 have eQ:(k0:Int)/32=(Q:Int):=by omega
 have eS:(k0:Int)%32=(S:Int):=by omega
 have HK:Hid (k0=32*Q+S):=by rw [Hid];omega
 have aiu:S<32:=by omega
 have Pv:Q≤100000000:=by omega
 go_enter Tryz.func132,Tryz.ntmps132
 go_wp2_with (fail)
 have hown0:Own (w.alloc (.cells #[] 57)) w.heap.size (.slice (some ⟨w.heap.size,0,none⟩) 0 0) []:=World.ownsRow_lit w #[] 0 (Nat.le_refl _) (Nat.zero_le _) rfl
 have hB0:Below w.heap.size w (w.alloc (.cells #[] 57)):=(Below.refl _ _).alloc (Nat.le_refl _) _
 go_loopw [5,8] (fun s i wr=>∃ k:Nat,k≤Q∧i = .int .i64 k∧Own wr w.heap.size s (List.replicate k 0)∧Below w.heap.size w wr) (fun _ i _=>Q-(intOf i).toNat)
 case atStart=>exact ⟨0,Nat.zero_le _,rfl,hown0,hB0⟩
 case round =>
  clear hown0 hB0
  obtain ⟨k,hk1,rfl,hown,hB⟩:=hrel
  by_cases hd1:k<Q
  · obtain ⟨v',w',hrun,hown',hB'⟩:=lH hB hown 0 0 rfl (by decide) (by simp;omega)
    obtain ⟨t1,t2,t3⟩:=jc hrun
    rw [← List.replicate_succ'] at hown'
    clear hrun
    go_wp2
    go_roundw
    case rel=>exact ⟨k+1,by omega,by go_num,hown',hB'⟩
    case measure=>simp [intOf];omega
  · obtain rfl:k=Q:=by omega
    go_wp2_with (fail)
    go_loop [7,9] (fun b i=>∃ j:Nat,j≤S∧i = .int .i64 j∧b = .int .u64 (2^j:Nat)) (fun _ i=>S-(intOf i).toNat)
    case atStart=>exact ⟨0,Nat.zero_le _,rfl,rfl⟩
    case round =>
     obtain ⟨j,hj,rfl,rfl⟩:=hrel
     have hp1:2^j<4294967296:=Nat.lt_of_le_of_lt (Nat.pow_le_pow_right (by decide) (show j≤31 by omega)) (by decide)
     by_cases hd2:j<S
     · have HN:Hid (2*((2^j:Nat):Int)=((2^(j+1):Nat):Int)):=by rw [Hid,Nat.pow_succ];omega
       obtain ⟨X,hX⟩:∃ X,2^j=X:=⟨_,rfl⟩
       rw [hX] at HN hp1
       rw [hX]
       clear hX
       go_wp2
       go_round
       case rel=>exact ⟨j+1,by omega,by go_num,by rw [← HN.out]⟩
       case measure=>simp [intOf];omega
     · obtain rfl:j=S:=by omega
       have hp0:0<2^j:=Nat.two_pow_pos j
       have HV0:Hid (n*2^k0=n*2^j*4294967296^k):=by
        rw [Hid,HK.out,vE,Nat.pow_add,Nat.mul_comm (2^(32*k)),← Nat.mul_assoc]
       obtain ⟨P,hP⟩:∃ P,2^j=P:=⟨_,rfl⟩
       rw [hP] at hp0 hp1 HV0
       rw [hP]
       clear hP
       go_wp2_with (fail)
       have HO0:Hid (BL (limbs n) k P 0 (List.replicate k 0) 0):=BL.start _ _ _ hp0
       go_loopw [5,6,10] (fun s cv i wr=>∃ (m cy:Nat) (o:List Nat),m≤(limbs n).length+1∧i = .int .i64 m∧cv = .int .u64 cy∧Hid (BL (limbs n) k P m o cy)∧Own wr w.heap.size s o∧Below w.heap.size w wr) (fun _ _ i _=>(limbs n).length+1-(intOf i).toNat)
       case atStart=>exact ⟨0,0,_,Nat.zero_le _,rfl,rfl,HO0,hown,hB⟩
       case round =>
        clear HO0 hown hB
        obtain ⟨m,cy,o,hm1,rfl,rfl,HO,hown,hB⟩:=hrel
        have hlen:=HO.out.len
        by_cases hd3:m≤(limbs n).length
        · have h1:=dz hx m
          have h3:=HO.out.carry
          have h4:lb (limbs n) m*P+cy<4294967296*P:=by
           have:=Nat.mul_le_mul_right P (show lb (limbs n) m+1≤4294967296 by omega)
           rw [Nat.add_mul] at this;omega
          have e1:((lb (limbs n) m:Nat):Int)*(P:Int)=((lb (limbs n) m*P:Nat):Int):=by rw [Int.natCast_mul]
          have ZY:((lb (limbs n) m:Nat):Int)*(P:Int)+(cy:Int)<18446744073709551616:=by rw [e1];omega
          have hm4:0≤((lb (limbs n) m:Nat):Int)*(P:Int):=by rw [e1];omega
          obtain ⟨x1,hx1⟩:∃ x1,(lb (limbs n) m*P+cy)%4294967296=x1:=⟨_,rfl⟩
          obtain ⟨c1,hc1⟩:∃ c1,(lb (limbs n) m*P+cy)/4294967296=c1:=⟨_,rfl⟩
          have NH:Hid (BL (limbs n) k P (m+1) (o++[x1]) c1):=by rw [Hid,← hx1,← hc1];exact HO.out.step hx
          obtain ⟨v',w',hrun,hown',hB'⟩:=lH hB hown ((((lb (limbs n) m:Nat):Int)*(P:Int)+(cy:Int))%4294967296) x1 (by rw [← hx1,e1];omega) (by rw [← hx1];exact Nat.mod_lt _ (by decide)) (by omega)
          obtain ⟨t1,t2,t3⟩:=jc hrun
          have NI:Hid ((((lb (limbs n) m:Nat):Int)*(P:Int)+(cy:Int))/4294967296=(c1:Int)):=by rw [Hid,← hc1,e1];omega
          clear hrun hx1 hc1 hlen e1 h4
          go_wp2_with (fail)
          refine (dB _ _ (limbs n) _ m rfl (U.below h hB)).mono ?_
          rintro e w' ⟨rfl,rfl⟩
          go_wp2_with (fail)
          go_roundw
          case rel=>exact ⟨m+1,c1,_,by omega,by go_num,by rw [NI.out],NH,hown',hB'⟩
          case measure=>simp [intOf];omega
        · obtain rfl:m=(limbs n).length+1:=by omega
          have HV:Hid (val o=n*2^k0):=by rw [Hid,HO.out.done hx (Nat.le_refl _) hp1,aJ,HV0.out]
          have hu:=hown.BJ HO.out.lt (by omega)
          have hol:o.length≤1000000000:=by omega
          clear hlen
          go_wp2_with (fail)
          refine (qV _ _ _ hu hol).mono ?_
          rintro e w' ⟨⟨z,rfl,hz,hf⟩,hB2⟩
          have hf2:Hid (wh w.heap.size z):=hf.mono hB.size
          clear hf
          have hz2:Un w' z (n*2^k0):=by rw [← HV.out];exact hz
          replace hB:=Below.trans hB (Below.mono hB2 hB.size)
          clear hz
          go_wp2
          go_ret
          exact ⟨⟨_,rfl,hz2,hf2.out⟩,hB⟩
theorem Ws (w:World) (v u:Value) (n m:Nat) (h:Un w v n) (g:Un w u m) (hm:(limbs n).length≤100000000) (hm2:(limbs m).length≤100000000) (s:Nat) (hs:n+m=s) :
  Calls Tryz.prog 77 #[v,u] w fun e w'=>∃ z,e = .returned z∧Un w' z s∧wh w.heap.size z∧Ext w w':=by
 subst hs
 have:=H8 w v u _ _ h g hm hm2
 rw [aJ,aJ] at this
 exact this.mono fun e w' ⟨⟨z,he,hz,hf⟩,hb⟩=>⟨z,he,hz,hf,hb⟩
theorem LW (w:World) (v u:Value) (n m:Nat) (h:Un w v n) (g:Un w u m) (hm:(limbs n).length≤100000000) (hm2:(limbs m).length≤100000000) (b:Bool) (hb:decide (m≤n)=b) (d:Nat) (hd:n-m=d) :
  Calls Tryz.prog 85 #[v,u] w fun e w'=>∃ z,e = .returned (.tuple #[z,.bool b])∧Un w' z d∧wh w.heap.size z∧Ext w w' :=
 (H9 w v u n m h g hm hm2 b hb d hd).mono fun e w' ⟨⟨z,he,hz,hf⟩,hb⟩=>⟨z,he,hz,hf,hb⟩
theorem LV (w:World) (v:Value) (n:Nat) (k:Nat) (h:Un w v n) (hk1:k≤100000000) (hl:(limbs n).length≤100000000) (s:Nat) (hs:n*2^k=s) :
  Calls Tryz.prog 132 #[v,.int .i64 (k:Int)] w fun e w'=>∃ z,e = .returned z∧Un w' z s∧wh w.heap.size z∧Ext w w':=by
 subst hs
 exact (Ia w v n k hk1 h hl).mono fun e w' ⟨⟨z,he,hz,hf⟩,hb⟩=>⟨z,he,hz,hf,hb⟩
end Go.Proofs.YtgcieamfidoaoaaGreatDoor
/- The document's division, walked. -/
namespace Go.Proofs.YtgcieamfidoaoaaGreatDoor
open Go.RowKit
set_option maxRecDepth 100000 in
theorem sI (w:World) (va vb:Value) (a b q r:Nat) (qU:Un w va a) (rX:Un w vb b) (hla:(limbs a).length≤200) (hlb:(limbs b).length≤200) (h0b:b≠0) (hq:a/b=q) (hr:a%b=r) :
  Calls Tryz.prog 91 #[va,vb] w fun e w'=>Dv w w' e q r:=by
 unfold Dv
 have HB:=Ext.refl w
 have aaC:=Ht h0b
 have HLB:=Lib.hid hlb
 obtain ⟨Ab,cb,rfl,hcb⟩:=U.shape (U.dX rX)
 obtain ⟨Aa,ca,rfl,hca⟩:=U.shape (U.dX qU)
 obtain ⟨Lb,hLb⟩:∃ Lb,(limbs b).length=Lb:=⟨_,rfl⟩
 obtain ⟨La,hLa⟩:∃ La,(limbs a).length=La:=⟨_,rfl⟩
 obtain ⟨bl,hbl⟩:∃ bl,bJ a=bl:=⟨_,rfl⟩
 rw [hLb] at rX hlb aaC ⊢
 rw [hLa] at qU hla ⊢
 have hL0:((Lb:Int)==0)=false:=by rw [beq_eq_false_iff_ne];omega
 have hL1:¬ Lb=0:=by omega
 have Hz:bl≤32*La:=by rw [← hbl,← hLa];exact zQ a
 have Eg:=Lib.hid (fun W (h:Un W (.slice Aa La ca) a)=>TZ W _ a h (by omega) (bl:Int) (by rw [hbl]))
 have T9:=Lib.hid (fun W (j:Nat) (hj:j≤10000) k (hk:a/2^j%2=k) (h:Un W (.slice Aa La ca) a)=>XT W _ a (j:Int) h (by omega) (by omega) (k:Int) (by rw [PW,hk]))
 have HS0:Hid (EZ a b La bl (List.replicate La 0)):=by
  refine ⟨by simp,by simp,?_⟩
  rw [dM,Nat.div_eq_of_lt (show a<2^bl by rw [← hbl];exact iZ a),Nat.zero_div,Nat.zero_mul]
 have ZT:Hid (a/2^bl%b=0):=by rw [Hid,Nat.div_eq_of_lt (show a<2^bl by rw [← hbl];exact iZ a),Nat.zero_mod]
 have Tv:Hid (∀ o,EZ a b La 0 o→val o=q):=fun o h=>by
  have:=h.val
  rwa [Nat.pow_zero,Nat.div_one,Nat.mul_one,hq] at this
 have HDR:Hid (∀ r',a/2^0%b=r'→r'=r):=fun r' h=>by
  rw [Nat.pow_zero,Nat.div_one,hr] at h;exact h.symm
 have HB0:=Lib.hid (show 0<b by omega)
 have Pt:Hid (∀ x,x≤2*b+1→(limbs x).length≤300):=fun x h=>by
  have h1:(limbs b).length≤200:=by omega
  have h2:=LU h1 h1
  have h3:(limbs 1).length≤1:=by rw [lG 1 (by decide) (by decide)];simp
  have h4:=LU h2 h3
  exact Nat.le_trans (jr (show x≤b+b+1 by omega)) (Nat.le_trans h4 (by decide))
 obtain ⟨i0,hi,hz0,hz1,hz2⟩:=info_parts oJ
 obtain ⟨B,hB⟩:∃ B,w.heap.size=B:=⟨_,rfl⟩
 have yM:=Lib.hid hB
 clear hLb hLa hbl hq hr hcb hca aaC h0b
 have ha0:=qU
 have hb0:=rX
 go_enter Tryz.func91,Tryz.ntmps91
 go_wp2_with (at_make;refine wpList_make_full _ rfl _ _ 24 rfl w.heap.size 57 i0 (.int .u32 0) 1 Tryz.underlying24 hi hz0 hz1 _ _ _ _ La rfl rfl (by omega) (by omega) (by rw [hz2];omega) (by unfold maxLen;omega) (Nat.le_refl _) ?_;intro w1 hown hgrow)
 have ho0:Own w1 w.heap.size (.slice (some ⟨w.heap.size,0,none⟩) La La) (List.replicate La 0):=by
  have:=Own.zeros hown
  rwa [List.length_replicate] at this
 have hE0:Ext w w1:=(Ext.refl w).grown hgrow (Nat.le_refl _) (fun _ h=>by cases h)
 rw [hB] at ho0
 replace qU:=U.below (U.dX qU) hE0
 replace rX:=U.below (U.dX rX) hE0
 clear hown hgrow hi hz0 hz1 hz2 i0 HB
 have hwB:=ho0.block.2
 go_wp2_with (fail)
 refine (Eg.out _ (U.alloc (U.dX qU) _)).mono ?_
 rintro e w2 ⟨rfl,hB2⟩
 have hR0:Un w2 (.slice (some ⟨w1.heap.size,0,none⟩) 0 0) 0:=U.un (U.yX _ _ _) aX
 have hF0:wh (B+1) (.slice (some ⟨w1.heap.size,0,none⟩) 0 0):=fun ad n c e=>by
  injection e with e1 _ _
  injection e1 with e1
  subst e1
  exact hwB
 replace ho0:=(ho0.alloc (.cells #[] 57)).ext hB2
 replace hE0:=(hE0.alloc (.cells #[] 57)).below hB2
 replace qU:=U.below (U.alloc (U.dX qU) _) hB2
 replace rX:=U.below (U.alloc (U.dX rX) _) hB2
 clear hB2 hwB Eg
 go_wp2
 go_loopw [8,9] (fun s8 s9 wr=>∃ (j:Nat) (z:Int) (R:Nat) (o:List Nat),j≤bl∧s9 = .int .i64 z∧z=(j:Int)-1∧Un wr s8 R∧wh (B+1) s8∧Hid (a/2^j%b=R)∧Hid (EZ a b La j o)∧Own wr B (.slice (some ⟨B,0,none⟩) La La) o∧Ext w wr) (fun _ s9 _=>(intOf s9+1).toNat)
 case atStart=>exact ⟨bl,_,0,_,Nat.le_refl _,rfl,rfl,hR0,hF0,ZT,HS0,ho0,hE0⟩
 case round =>
  clear hR0 hF0 ZT HS0 ho0 qU rX hE0
  obtain ⟨j,z,R,o,hj,rfl,hz,hR,hf,PX,HO,hown,hE⟩:=hrel
  have qU:=U.below (U.dX ha0) hE
  have rX:=U.below (U.dX hb0) hE
  cases j with
  | zero =>
   obtain rfl:z = -1:=by omega
   obtain rfl:=HDR.out R PX.out
   have hu:=hown.BJ HO.out.lt (by rw [HO.out.len];omega)
   have hlo:=HO.out.len
   have HM1:=Lib.hid (Bd _ _ o hu (by omega) q (Tv.out o HO.out))
   have HM2:=Lib.hid (fun W (h:Un W u8 R)=>Bd W _ (limbs R) h (by have:=Pt.out R (by have:=PX.out;have:=Nat.mod_lt (a/2^0) HB0.out;omega);omega) R (aJ R))
   clear hu hlo hown HO Tv HDR hz qU rX Pt hf
   go_wp2_with (fail)
   refine HM1.out.mono ?_
   rintro e w3 ⟨v3,rfl,hv3,hB3⟩
   replace hR:=U.below (U.dX hR) hB3
   replace hE:=hE.below hB3
   clear hB3 HM1
   go_wp2_with (fail)
   refine (HM2.out _ hR).mono ?_
   rintro e w4 ⟨v4,rfl,hv4,hB4⟩
   replace hE:=hE.below hB4
   have HF:Hid (∃ x' y',Ending.returned (.tuple #[v3,v4,.int .i64 0]) = .returned (.tuple #[x',y',.int .i64 0])∧Un w4 x' q∧Un w4 y' R):=⟨_,_,rfl,U.below (U.dX hv3) hB4,hv4⟩
   clear hB4 HM2 hv3 hv4 hR
   go_wp2
   go_ret3
   exact ⟨HF.out,hE⟩
  | succ j =>
   obtain rfl:z=(j:Int):=by omega
   clear hz
   have hwr:=hown.block.2
   have hRb:R<b:=by rw [← PX.out];exact Nat.mod_lt _ HB0.out
   obtain ⟨R1,Ua⟩:∃ R1,R*2^1=R1:=⟨_,rfl⟩
   have HR1:=Lib.hid Ua
   have hj2:j≤10000:=by omega
   obtain ⟨k,hk⟩:∃ k,j/32=k:=⟨_,rfl⟩
   obtain ⟨s,hs⟩:∃ s,j%32=s:=⟨_,rfl⟩
   obtain ⟨P,hP⟩:∃ P,2^s=P:=⟨_,rfl⟩
   obtain ⟨x,hxe⟩:∃ x,lb o k=x:=⟨_,rfl⟩
   have hkl:k<La:=by omega
   have H6:k<o.length:=by rw [HO.out.len];exact hkl
   have k1:(j:Int)/32=(k:Int):=by omega
   have k2:(j:Int).tdiv 32=(k:Int):=by rw [Int.tdiv_eq_ediv_of_nonneg (Int.natCast_nonneg _)];exact k1
   have k3:(j:Int)%32=(s:Int):=by omega
   have k4:(j:Int).tmod 32=(s:Int):=by rw [Int.tmod_eq_emod_of_nonneg (Int.natCast_nonneg _)];exact k3
   have k5:(0:Int)≤(k:Int):=Int.natCast_nonneg k
   have k6:(k:Int)<(La:Int):=by omega
   have k7:(0:Int)≤(s:Int):=Int.natCast_nonneg s
   have k8:=xk (show k≤1000000 by omega)
   have k9:=xk (show s≤1000000 by omega)
   have hPb:P≤2147483648:=by
    rw [← hP]
    show 2^s≤2^31
    exact Nat.pow_le_pow_right (by decide) (by omega)
   have p1:(2:Int)^s=(P:Int):=by rw [← hP,Int.natCast_pow];rfl
   have p2:=xm (show P<4294967296 by omega)
   have p3:=xu (show P<4294967296 by omega)
   rcases (show a/2^j%2=0∨a/2^j%2=1 by omega) with hbit | hbit
   · obtain ⟨R2,hR2⟩:∃ R2,R1=R2:=⟨_,rfl⟩
     subst hR2
     by_cases hge:b≤R1
     · obtain ⟨d,hd⟩:∃ d,R1-b=d:=⟨_,rfl⟩
       obtain ⟨h1,h2,h3⟩:=HO.out.more HB0.out 0 R k s P x hbit PX.out (by omega) hk hs hP hxe hkl
       obtain ⟨y,hy⟩:∃ y,x+P=y:=⟨_,rfl⟩
       rw [hy] at h1 h2
       have HST:=Lib.hid h2
       have HRR:Hid (a/2^j%b=d):=by rw [Hid,h3];omega
       have q1:(x:Int)+(P:Int)=(y:Int):=by omega
       have q2:=xm h1
       have q3:=xu h1
       have HH:=Lib.hid (And.intro hj2 (And.intro hbit (And.intro hge (And.intro hd (And.intro H6 (And.intro hxe (And.intro hRb (And.intro Ua (And.intro Hz (And.intro hlb hwr))))))))))
       clear hk hs hP h1 h2 h3 hy HO PX hj2 hbit hge hd H6 hxe hRb Ua hkl hPb Hz hlb hwr
       go_wp2_with (fail)
       refine (LV _ _ R 1 hR (by decide) (by have:=HH.out;have:=Pt.out R (by omega);omega) R1 HR1.out).mono ?_
       rintro e w3 ⟨v3,rfl,hv3,hf3,hB3⟩
       replace hf3:wh (B+1) v3:=hf3.mono HH.out.2.2.2.2.2.2.2.2.2.2
       replace qU:=U.below (U.dX qU) hB3
       replace rX:=U.below (U.dX rX) hB3
       replace hown:=hown.ext hB3
       replace hE:=hE.below hB3
       clear hB3 hR hf
       go_wp2_with (fail)
       refine (T9.out _ j HH.out.1 0 HH.out.2.1 qU).mono ?_
       rintro e w4 ⟨rfl,hB4⟩
       replace qU:=U.below (U.dX qU) hB4
       replace rX:=U.below (U.dX rX) hB4
       replace hv3:=U.below (U.dX hv3) hB4
       replace hown:=hown.ext hB4
       replace hE:=hE.below hB4
       clear hB4
       have hv5:=hv3
       have XU:=hf3
       clear hv3 hf3
       have PY:=hown.block.2
       go_wp2_with (fail)
       refine (LW _ _ _ R1 b hv5 rX (by have:=HH.out;have:=HR1.out;have:=Pt.out R1 (by omega);omega) (by have:=HLB.out;omega) true (by rw [decide_eq_true_iff];exact HH.out.2.2.1) d HH.out.2.2.2.1).mono ?_
       rintro e w6 ⟨v6,rfl,hv6,H7,DJ⟩
       replace H7:wh (B+1) v6:=H7.mono PY
       replace hown:=hown.ext DJ
       replace hE:=hE.below DJ
       replace hv5:=U.below (U.dX hv5) DJ
       clear DJ qU rX
       have hcz:=hown.rd.2 k HH.out.2.2.2.2.1
       rw [HH.out.2.2.2.2.2.1] at hcz
       have hfz:=hown.frozen' k
       have TY:But B w6 (w6.setCell ⟨B,k,none⟩ (.int .u32 (y:Nat))):=(But.refl B w6).setCell k _
       have hown2:=hown.set' k y
       have hv7:=U.apart (U.dX hv6) H7 (Nat.lt_succ_self B) TY
       have hE2:=hE.setCell (p:=⟨B,k,none⟩) (by rw [yM.out];exact Nat.le_refl _) (.int .u32 (y:Nat))
       clear hv5 XU hv6 hown hE TY PY
       go_wp2
       go_region
       all_goals
        go_wp2
        go_roundw
        case rel=>exact ⟨j,_,d,_,by omega,rfl,rfl,hv7,H7,HRR,HST,hown2.drew,hE2.drew⟩
        case measure=>simp [intOf]
     · obtain ⟨d,hd⟩:∃ d,R1-b=d:=⟨_,rfl⟩
       obtain ⟨h2,h3⟩:=HO.out.none 0 R hbit PX.out (by omega)
       have HST:=Lib.hid h2
       have HRR:Hid (a/2^j%b=R1):=by rw [Hid,h3];omega
       have HH:=Lib.hid (And.intro hj2 (And.intro hbit (And.intro hge (And.intro hd (And.intro H6 (And.intro hxe (And.intro hRb (And.intro Ua (And.intro Hz (And.intro hlb hwr))))))))))
       clear hk hs hP h2 h3 HO PX hj2 hbit hge hd H6 hxe hRb Ua hkl hPb Hz hlb hwr
       go_wp2_with (fail)
       refine (LV _ _ R 1 hR (by decide) (by have:=HH.out;have:=Pt.out R (by omega);omega) R1 HR1.out).mono ?_
       rintro e w3 ⟨v3,rfl,hv3,hf3,hB3⟩
       replace hf3:wh (B+1) v3:=hf3.mono HH.out.2.2.2.2.2.2.2.2.2.2
       replace qU:=U.below (U.dX qU) hB3
       replace rX:=U.below (U.dX rX) hB3
       replace hown:=hown.ext hB3
       replace hE:=hE.below hB3
       clear hB3 hR hf
       go_wp2_with (fail)
       refine (T9.out _ j HH.out.1 0 HH.out.2.1 qU).mono ?_
       rintro e w4 ⟨rfl,hB4⟩
       replace qU:=U.below (U.dX qU) hB4
       replace rX:=U.below (U.dX rX) hB4
       replace hv3:=U.below (U.dX hv3) hB4
       replace hown:=hown.ext hB4
       replace hE:=hE.below hB4
       clear hB4
       have hv5:=hv3
       have XU:=hf3
       clear hv3 hf3
       have PY:=hown.block.2
       go_wp2_with (fail)
       refine (LW _ _ _ R1 b hv5 rX (by have:=HH.out;have:=HR1.out;have:=Pt.out R1 (by omega);omega) (by have:=HLB.out;omega) false (by rw [decide_eq_false_iff_not];exact HH.out.2.2.1) d HH.out.2.2.2.1).mono ?_
       rintro e w6 ⟨v6,rfl,hv6,H7,DJ⟩
       replace H7:wh (B+1) v6:=H7.mono PY
       replace hown:=hown.ext DJ
       replace hE:=hE.below DJ
       replace hv5:=U.below (U.dX hv5) DJ
       clear DJ qU rX
       clear hv6 H7 PY
       go_wp2
       go_roundw
       case rel=>exact ⟨j,_,R1,_,by omega,rfl,rfl,hv5,XU,HRR,HST,hown,hE⟩
       case measure=>simp [intOf]
   · obtain ⟨R2,hR2⟩:∃ R2,R1+1=R2:=⟨_,rfl⟩
     have HR2:=Lib.hid hR2
     by_cases hge:b≤R2
     · obtain ⟨d,hd⟩:∃ d,R2-b=d:=⟨_,rfl⟩
       obtain ⟨h1,h2,h3⟩:=HO.out.more HB0.out 1 R k s P x hbit PX.out (by omega) hk hs hP hxe hkl
       obtain ⟨y,hy⟩:∃ y,x+P=y:=⟨_,rfl⟩
       rw [hy] at h1 h2
       have HST:=Lib.hid h2
       have HRR:Hid (a/2^j%b=d):=by rw [Hid,h3];omega
       have q1:(x:Int)+(P:Int)=(y:Int):=by omega
       have q2:=xm h1
       have q3:=xu h1
       have HH:=Lib.hid (And.intro hj2 (And.intro hbit (And.intro hge (And.intro hd (And.intro H6 (And.intro hxe (And.intro hRb (And.intro Ua (And.intro Hz (And.intro hlb hwr))))))))))
       clear hk hs hP h1 h2 h3 hy HO PX hj2 hbit hge hd H6 hxe hRb Ua hkl hPb Hz hlb hwr hR2
       go_wp2_with (fail)
       refine (LV _ _ R 1 hR (by decide) (by have:=HH.out;have:=Pt.out R (by omega);omega) R1 HR1.out).mono ?_
       rintro e w3 ⟨v3,rfl,hv3,hf3,hB3⟩
       replace hf3:wh (B+1) v3:=hf3.mono HH.out.2.2.2.2.2.2.2.2.2.2
       replace qU:=U.below (U.dX qU) hB3
       replace rX:=U.below (U.dX rX) hB3
       replace hown:=hown.ext hB3
       replace hE:=hE.below hB3
       clear hB3 hR hf
       go_wp2_with (fail)
       refine (T9.out _ j HH.out.1 1 HH.out.2.1 qU).mono ?_
       rintro e w4 ⟨rfl,hB4⟩
       replace qU:=U.below (U.dX qU) hB4
       replace rX:=U.below (U.dX rX) hB4
       replace hv3:=U.below (U.dX hv3) hB4
       replace hown:=hown.ext hB4
       replace hE:=hE.below hB4
       clear hB4
       have hl:=Lib.hid (uH w4)
       have hw4:=hown.block.2
       go_wp2_with (fail)
       refine (Ws _ _ _ R1 1 (U.alloc (U.dX hv3) _) hl.out (by have:=HH.out;have:=HR1.out;have:=Pt.out R1 (by omega);omega) (by have:=Hw;rw [lG 1 (by decide) (by decide)];simp) R2 HR2.out).mono ?_
       rintro e w5 ⟨v5,rfl,hv5,hf5,Eh⟩
       have XU:wh (B+1) v5:=hf5.mono (by simp;omega)
       replace qU:=U.below (U.alloc (U.dX qU) _) Eh
       replace rX:=U.below (U.alloc (U.dX rX) _) Eh
       replace hown:=(hown.alloc _).ext Eh
       replace hE:=(hE.alloc _).below Eh
       clear Eh hf5 hv3 hf3 hl hw4
       have PY:=hown.block.2
       go_wp2_with (fail)
       refine (LW _ _ _ R2 b hv5 rX (by have:=HH.out;have:=HR1.out;have:=HR2.out;have:=Pt.out R2 (by omega);omega) (by have:=HLB.out;omega) true (by rw [decide_eq_true_iff];exact HH.out.2.2.1) d HH.out.2.2.2.1).mono ?_
       rintro e w6 ⟨v6,rfl,hv6,H7,DJ⟩
       replace H7:wh (B+1) v6:=H7.mono PY
       replace hown:=hown.ext DJ
       replace hE:=hE.below DJ
       replace hv5:=U.below (U.dX hv5) DJ
       clear DJ qU rX
       have hcz:=hown.rd.2 k HH.out.2.2.2.2.1
       rw [HH.out.2.2.2.2.2.1] at hcz
       have hfz:=hown.frozen' k
       have TY:But B w6 (w6.setCell ⟨B,k,none⟩ (.int .u32 (y:Nat))):=(But.refl B w6).setCell k _
       have hown2:=hown.set' k y
       have hv7:=U.apart (U.dX hv6) H7 (Nat.lt_succ_self B) TY
       have hE2:=hE.setCell (p:=⟨B,k,none⟩) (by rw [yM.out];exact Nat.le_refl _) (.int .u32 (y:Nat))
       clear hv5 XU hv6 hown hE TY PY
       go_wp2
       go_region
       all_goals
        go_wp2
        go_roundw
        case rel=>exact ⟨j,_,d,_,by omega,rfl,rfl,hv7,H7,HRR,HST,hown2.drew,hE2.drew⟩
        case measure=>simp [intOf]
     · obtain ⟨d,hd⟩:∃ d,R2-b=d:=⟨_,rfl⟩
       obtain ⟨h2,h3⟩:=HO.out.none 1 R hbit PX.out (by omega)
       have HST:=Lib.hid h2
       have HRR:Hid (a/2^j%b=R2):=by rw [Hid,h3];omega
       have HH:=Lib.hid (And.intro hj2 (And.intro hbit (And.intro hge (And.intro hd (And.intro H6 (And.intro hxe (And.intro hRb (And.intro Ua (And.intro Hz (And.intro hlb hwr))))))))))
       clear hk hs hP h2 h3 HO PX hj2 hbit hge hd H6 hxe hRb Ua hkl hPb Hz hlb hwr hR2
       go_wp2_with (fail)
       refine (LV _ _ R 1 hR (by decide) (by have:=HH.out;have:=Pt.out R (by omega);omega) R1 HR1.out).mono ?_
       rintro e w3 ⟨v3,rfl,hv3,hf3,hB3⟩
       replace hf3:wh (B+1) v3:=hf3.mono HH.out.2.2.2.2.2.2.2.2.2.2
       replace qU:=U.below (U.dX qU) hB3
       replace rX:=U.below (U.dX rX) hB3
       replace hown:=hown.ext hB3
       replace hE:=hE.below hB3
       clear hB3 hR hf
       go_wp2_with (fail)
       refine (T9.out _ j HH.out.1 1 HH.out.2.1 qU).mono ?_
       rintro e w4 ⟨rfl,hB4⟩
       replace qU:=U.below (U.dX qU) hB4
       replace rX:=U.below (U.dX rX) hB4
       replace hv3:=U.below (U.dX hv3) hB4
       replace hown:=hown.ext hB4
       replace hE:=hE.below hB4
       clear hB4
       have hl:=Lib.hid (uH w4)
       have hw4:=hown.block.2
       go_wp2_with (fail)
       refine (Ws _ _ _ R1 1 (U.alloc (U.dX hv3) _) hl.out (by have:=HH.out;have:=HR1.out;have:=Pt.out R1 (by omega);omega) (by have:=Hw;rw [lG 1 (by decide) (by decide)];simp) R2 HR2.out).mono ?_
       rintro e w5 ⟨v5,rfl,hv5,hf5,Eh⟩
       have XU:wh (B+1) v5:=hf5.mono (by simp;omega)
       replace qU:=U.below (U.alloc (U.dX qU) _) Eh
       replace rX:=U.below (U.alloc (U.dX rX) _) Eh
       replace hown:=(hown.alloc _).ext Eh
       replace hE:=(hE.alloc _).below Eh
       clear Eh hf5 hv3 hf3 hl hw4
       have PY:=hown.block.2
       go_wp2_with (fail)
       refine (LW _ _ _ R2 b hv5 rX (by have:=HH.out;have:=HR1.out;have:=HR2.out;have:=Pt.out R2 (by omega);omega) (by have:=HLB.out;omega) false (by rw [decide_eq_false_iff_not];exact HH.out.2.2.1) d HH.out.2.2.2.1).mono ?_
       rintro e w6 ⟨v6,rfl,hv6,H7,DJ⟩
       replace H7:wh (B+1) v6:=H7.mono PY
       replace hown:=hown.ext DJ
       replace hE:=hE.below DJ
       replace hv5:=U.below (U.dX hv5) DJ
       clear DJ qU rX
       clear hv6 H7 PY
       go_wp2
       go_roundw
       case rel=>exact ⟨j,_,R2,_,by omega,rfl,rfl,hv5,XU,HRR,HST,hown,hE⟩
       case measure=>simp [intOf]
end Go.Proofs.YtgcieamfidoaoaaGreatDoor
/- Naturals in slices, in the walk by plans. -/
namespace Go.Proofs.YtgcieamfidoaoaaGreatDoor
open Go.RowKit
set_option maxRecDepth 100000
def Sn (n K:Nat):Prop:=(limbs n).length≤K
theorem Sn.le {n K M:Nat} (h:Sn n K) (hk:K≤M):Sn n M:=Nat.le_trans h hk
theorem Sn.zero {K:Nat}:Sn 0 K:=by show (limbs 0).length≤K;rw [aX];exact Nat.zero_le _
theorem Sn.lt {n K:Nat} (h:Sn n K):n<4294967296^K:=dU h
theorem Sn.of {n K:Nat} (h:n<4294967296^K):Sn n K:=kN h
theorem Sn.down {n m K:Nat} (h:Sn n K) (hm:m≤n):Sn m K:=Sn.of (Nat.lt_of_le_of_lt hm h.lt)
theorem Sn.add {a b K J M:Nat} (ha:Sn a K) (hb:Sn b J) (hk:K+1≤M) (hj:J+1≤M):Sn (a+b) M:=by
 obtain ⟨m,rfl⟩:∃ m,M=m+1:=⟨M-1,by omega⟩
 have h1:=(ha.le (show K≤m by omega)).lt
 have h2:=(hb.le (show J≤m by omega)).lt
 refine Sn.of ?_
 rw [Nat.pow_succ]
 omega
theorem Sn.mul {a b K J M:Nat} (ha:Sn a K) (hb:Sn b J) (hk:K+J≤M):Sn (a*b) M:=by
 refine Sn.of (Nat.lt_of_lt_of_le (Nat.mul_lt_mul'' ha.lt hb.lt) ?_)
 rw [← Nat.pow_add]
 exact Nat.pow_le_pow_right (by decide) hk
theorem Sn.div {a b K:Nat} (h:Sn a K):Sn (a/b) K:=h.down (Nat.div_le_self _ _)
theorem Sn.mod {a b K:Nat} (h:Sn b K) (h0:b≠0):Sn (a%b) K:=h.down (Nat.le_of_lt (Nat.mod_lt _ (Nat.pos_of_ne_zero h0)))
theorem Sn.sz {n K:Nat} (h:Sn n K):Sz (n:Int) K:=h
theorem Sz.sn {z:Int} {K:Nat} (h:Sz z K):Sn z.natAbs K:=h
theorem Mm {n:Nat} (h:0<n):(0:Int)<((limbs n).length:Int):=by
 rw [fZ (by omega)];simp
theorem Cv {n:Nat} (h:n=0):¬ (0:Int)<((limbs n).length:Int):=by
 subst h;rw [aX];simp
end Go.Proofs.YtgcieamfidoaoaaGreatDoor
/- Small laws for the walk's printer (ax.py): numbers of unsigned kinds, comparisons, contracts of naturals in the printer's form. -/
namespace Go.Proofs.YtgcieamfidoaoaaGreatDoor
open Go.RowKit
set_option maxRecDepth 100000
theorem Un.one {w:World} {N:Nat} {T:TypeId} {x:Nat} {z:Int} (h:Pl.Cb w N T [.int .u32 z]) (hz:z=(x:Int)) (h0:x≠0∧x<4294967296):Un w (.slice (some ⟨N,0,none⟩) 1 1) x:=by
 subst hz
 rw [Un,lG x h0.1 h0.2]
 refine ⟨_,1,rfl,⟨by simp,by simp⟩,by simpa using h0.2,fun _=>⟨_,rfl,h.lt,fun j hj=>?_⟩⟩
 have:j=0:=by simpa using hj
 subst this
 rw [kQ]
 exact h.at (j:=0) rfl
theorem Un.aeW (w:World) (A:Option Addr) (c:Nat):Un w (.slice A 0 c) 0:=by rw [Un,aX];exact U.yX _ _ _
theorem Un.len {w:World} {A:Option Addr} {L c n:Nat} (h:Un w (.slice A L c) n):L=(limbs n).length:=by
 obtain ⟨A',c',e,_⟩:=h;injection e
theorem Un.jX {w:World} {v:Value} {n:Nat} (h:Un w v n):∃ A c,v = .slice A (limbs n).length c:=by
 obtain ⟨A',c',e,_⟩:=h;exact ⟨A',c',e⟩
theorem CB (n m:Nat):(n<m∧bN n m = -1)∨(n=m∧bN n m=0)∨(m<n∧bN n m=1):=by
 unfold bN
 rcases Nat.lt_trichotomy n m with h | h | h
 · exact .inl ⟨h,if_pos (by omega)⟩
 · exact .inr (.inl ⟨h,by rw [if_neg (by omega),if_neg (by omega)]⟩)
 · exact .inr (.inr ⟨h,by rw [if_neg (by omega),if_pos (by omega)]⟩)
section
variable {P:Program} {T:TypeId} {x y:Operand} {n m:Nat}
theorem Cm.Rn (h:n=m) (X:World):Pl.Bn P .eql T x y (.int .i64 (bN n m)) (.int .i64 0) X = .ok (.bool true) X:=Pl.xA (Pl.e_t (by have:=CB n m;omega)) X
theorem Cm.Ro (h:¬ n=m) (X:World):Pl.Bn P .eql T x y (.int .i64 (bN n m)) (.int .i64 0) X = .ok (.bool false) X:=Pl.xA (Pl.e_f (by have:=CB n m;omega)) X
end
end Go.Proofs.YtgcieamfidoaoaaGreatDoor
