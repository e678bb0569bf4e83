/- The document's own Add. -/
import Derived.Test.YtgcieamfidoaoaaGreatDoorEas
import Derived.Test.YtgcieamfidoaoaaGreatDoorEan
set_option linter.all false
set_option maxHeartbeats 8000000
namespace Go.Proofs.YtgcieamfidoaoaaGreatDoor
open Go.RowKit
attribute [local go_sem ↓] oL
attribute [local go_sem] iy
def pv (xs:List Nat) (k:Nat):Nat:=val ((List.range k).map fun j=>lb xs j)
theorem Wj (xs:List Nat):pv xs 0=0:=rfl
theorem yK (xs:List Nat) (k:Nat):pv xs (k+1)=pv xs k+lb xs k*4294967296^k:=by
 unfold pv
 rw [List.range_succ,List.map_append,val_append]
 simp only [List.map_cons,List.map_nil,val,Nat.mul_zero,Nat.add_zero,List.length_map,List.length_range]
 rw [Nat.mul_comm]
theorem DC (xs:List Nat) (L:Nat) (h:xs.length≤L):pv xs L=val xs:=pF xs L h
theorem Tt (xs:List Nat) (k:Nat) (h:∀ x∈xs,x<4294967296):pv xs k<4294967296^k:=by
 have:=mQ ((List.range k).map fun j=>lb xs j) (by intro x hx;obtain ⟨j,_,rfl⟩:=List.mem_map.1 hx;exact dz h j)
 simpa [pv] using this
theorem DD (o:List Nat) (x:Nat):val (o++[x])=val o+x*4294967296^o.length:=by
 rw [val_append];simp only [val,Nat.mul_zero,Nat.add_zero];rw [Nat.mul_comm]
structure wm (xs ys:List Nat) (k:Nat) (o:List Nat) (c:Nat):Prop where
 len:o.length=k
 lt:∀ x∈o,x<4294967296
 carry:c≤1
 val_eq:val o+c*4294967296^k=pv xs k+pv ys k
theorem wm.start (xs ys:List Nat):wm xs ys 0 [] 0:=⟨rfl,by simp,by omega,rfl⟩
theorem wm.step {xs ys:List Nat} {k:Nat} {o:List Nat} {c:Nat} (h:wm xs ys k o c) (hx:∀ x∈xs,x<4294967296) (hy:∀ x∈ys,x<4294967296) :
  wm xs ys (k+1) (o++[(lb xs k+lb ys k+c)%4294967296]) ((lb xs k+lb ys k+c)/4294967296):=by
 have h1:=dz hx k
 have h2:=dz hy k
 have h3:=h.carry
 refine ⟨by simp [h.len],rP h.lt (Nat.mod_lt _ (by decide)),by omega,?_⟩
 rw [DD,yK,yK,h.len,Nat.pow_succ]
 have e:=h.val_eq
 generalize 4294967296^k=B at *
 generalize lb xs k=p at *
 generalize lb ys k=q at *
 have e4:(p+q+c)*B=(p+q+c)%4294967296*B+(p+q+c)/4294967296*4294967296*B:=by
  conv=>lhs;rw [show p+q+c=(p+q+c)%4294967296+(p+q+c)/4294967296*4294967296 by omega]
  rw [Nat.add_mul]
 rw [Nat.add_mul,Nat.add_mul] at e4
 have e5:(p+q+c)/4294967296*(B*4294967296)=(p+q+c)/4294967296*4294967296*B:=by
  rw [Nat.mul_comm B 4294967296,← Nat.mul_assoc]
 rw [e5]
 omega
theorem wm.done {xs ys:List Nat} {k:Nat} {o:List Nat} {c:Nat} (h:wm xs ys (k+1) o c) (hx:∀ x∈xs,x<4294967296) (hy:∀ x∈ys,x<4294967296) (h1:xs.length≤k) (h2:ys.length≤k) :
  val o=val xs+val ys:=by
 have e:=h.val_eq
 have a1:=Tt xs k hx
 have a2:=Tt ys k hy
 rw [DC xs _ (by omega)] at e a1
 rw [DC ys _ (by omega)] at e a2
 have h3:=h.carry
 rw [Nat.pow_succ] at e
 have hB:0<4294967296^k:=Nat.pow_pos (by decide)
 generalize 4294967296^k=B at *
 have:c=0∨c=1:=by omega
 rcases this with rfl | rfl<;>omega
theorem lH {w0 w:World} (hB:Below w0.heap.size w0 w) {v:Value} {o:List Nat} (hown:Own w w0.heap.size v o) (z:Int) (x:Nat) (hz:z=(x:Int)) (hx:x<4294967296) (hlen:o.length+1≤35184372088832) :
  ∃ v' w',(Builtin.append_ #[24,24] 24 #[v,.slice (some ⟨w.heap.size,0,none⟩) 1 1]).run Tryz.prog (w.alloc (.cells #[.int .u32 z] 57)) = .ok v' w'∧Own w' w0.heap.size v' (o++[x])∧Below w0.heap.size w0 w':=by
 subst hz
 have hu:U (w.alloc (.cells #[.int .u32 (x:Int)] 57)) (.slice (some ⟨w.heap.size,0,none⟩) 1 1) [x]:=Hu w [x] (by simpa using hx) (by simp)
 have hB1:=hB.alloc hB.size (.cells #[.int .u32 (x:Int)] 57)
 obtain ⟨v',w',hrun,ho,hg⟩:=qW _ w0.heap.size _ o (World.ownsRow.alloc hown _) _ _ hu (by simpa using hlen) hB1.size
 exact ⟨v',w',hrun,ho,hB1.grown hg hB1.size (fun j e=>(World.ownsRow.lt hown j e).1)⟩
set_option maxRecDepth 100000 in
theorem LF (w:World) (v u:Value) (xs ys:List Nat) (h:U w v xs) (g:U w u ys) (hl:xs.length≤100000000) (hl2:ys.length≤100000000) :
  Calls Tryz.prog 77 #[v,u] w fun e w'=>(∃ z,e = .returned z∧U w' z (limbs (val xs+val ys)))∧Below w.heap.size w w':=by
 obtain ⟨A,c,rfl,⟨hc,hm⟩,hx,hr⟩:=id h
 obtain ⟨A2,c2,rfl,⟨hc2,hm2⟩,hx2,hr2⟩:=id g
 clear hr hr2
 go_enter Tryz.func77,Tryz.ntmps77
 go_wp2_with (fail)
 have hown0:Own (w.alloc (.cells #[] 57)) w.heap.size (.slice (some ⟨w.heap.size,0,none⟩) 0 0) []:=World.ownsRow_lit w #[] 0 (Nat.le_refl _) (Nat.zero_le _) rfl
 have hB0:Below w.heap.size w (w.alloc (.cells #[] 57)):=(Below.refl _ _).alloc (Nat.le_refl _) _
 go_loopw [5,6,7] (fun s cv i wr=>∃ (k cy:Nat) (o:List Nat),k≤max xs.length ys.length+1∧i = .int .i64 k∧cv = .int .u64 cy∧Hid (wm xs ys k o cy)∧Own wr w.heap.size s o∧Below w.heap.size w wr) (fun _ _ i _=>max xs.length ys.length+2-(intOf i).toNat)
 case atStart=>exact ⟨0,0,[],Nat.zero_le _,rfl,rfl,wm.start xs ys,hown0,hB0⟩
 case round =>
  clear hown0 hB0
  obtain ⟨k,cy,o,hk,rfl,rfl,HO,hown,hB⟩:=hrel
  by_cases hd1:k≤xs.length
  · have h1:=dz hx k
    have h2:=dz hx2 k
    have h3:=HO.out.carry
    have hlen:=HO.out.len
    obtain ⟨x1,hx1⟩:∃ x1,(lb xs k+lb ys k+cy)%4294967296=x1:=⟨_,rfl⟩
    obtain ⟨c1,hc1⟩:∃ c1,(lb xs k+lb ys k+cy)/4294967296=c1:=⟨_,rfl⟩
    have NH:Hid (wm xs ys (k+1) (o++[x1]) c1):=by rw [Hid,← hx1,← hc1];exact HO.out.step hx hx2
    obtain ⟨v',w',hrun,hown',hB'⟩:=lH hB hown ((((lb xs k:Nat):Int)+((lb ys k:Nat):Int)+(cy:Int))%4294967296) x1 (by rw [← hx1];omega) (by rw [← hx1];exact Nat.mod_lt _ (by decide)) (by omega)
    obtain ⟨t1,t2,t3⟩:=jc hrun
    have hk2:k+1≤max xs.length ys.length+1:=by omega
    have NI:Hid ((((lb xs k:Nat):Int)+((lb ys k:Nat):Int)+(cy:Int))/4294967296=(c1:Int)):=by rw [Hid,← hc1];omega
    clear hrun hx1 hc1 hlen
    go_wp2_with (fail)
    refine (dB _ _ xs _ k rfl (h.below hB)).mono ?_
    rintro e w' ⟨rfl,rfl⟩
    go_wp2_with (fail)
    refine (dB _ _ ys _ k rfl (g.below hB)).mono ?_
    rintro e w' ⟨rfl,rfl⟩
    go_wp2_with (fail)
    go_roundw
    case rel=>exact ⟨k+1,c1,_,hk2,by go_num,by rw [NI.out],NH,hown',hB'⟩
    case measure=>simp [intOf];omega
  · by_cases hd2:k≤ys.length
    · have h1:=dz hx k
      have h2:=dz hx2 k
      have h3:=HO.out.carry
      have hlen:=HO.out.len
      obtain ⟨x1,hx1⟩:∃ x1,(lb xs k+lb ys k+cy)%4294967296=x1:=⟨_,rfl⟩
      obtain ⟨c1,hc1⟩:∃ c1,(lb xs k+lb ys k+cy)/4294967296=c1:=⟨_,rfl⟩
      have NH:Hid (wm xs ys (k+1) (o++[x1]) c1):=by rw [Hid,← hx1,← hc1];exact HO.out.step hx hx2
      obtain ⟨v',w',hrun,hown',hB'⟩:=lH hB hown ((((lb xs k:Nat):Int)+((lb ys k:Nat):Int)+(cy:Int))%4294967296) x1 (by rw [← hx1];omega) (by rw [← hx1];exact Nat.mod_lt _ (by decide)) (by omega)
      obtain ⟨t1,t2,t3⟩:=jc hrun
      have hk2:k+1≤max xs.length ys.length+1:=by omega
      have NI:Hid ((((lb xs k:Nat):Int)+((lb ys k:Nat):Int)+(cy:Int))/4294967296=(c1:Int)):=by rw [Hid,← hc1];omega
      clear hrun hx1 hc1 hlen
      go_wp2_with (fail)
      refine (dB _ _ xs _ k rfl (h.below hB)).mono ?_
      rintro e w' ⟨rfl,rfl⟩
      go_wp2_with (fail)
      refine (dB _ _ ys _ k rfl (g.below hB)).mono ?_
      rintro e w' ⟨rfl,rfl⟩
      go_wp2_with (fail)
      go_roundw
      case rel=>exact ⟨k+1,c1,_,hk2,by go_num,by rw [NI.out],NH,hown',hB'⟩
      case measure=>simp [intOf];omega
    · have hlen:=HO.out.len
      obtain ⟨j,rfl⟩:∃ j,k=j+1:=⟨k-1,by omega⟩
      have HV:Hid (val o=val xs+val ys):=HO.out.done hx hx2 (by omega) (by omega)
      have hu:=hown.BJ HO.out.lt (by omega)
      have hol:o.length≤1000000000:=by omega
      clear hlen
      go_wp2_with (fail)
      refine (dZ _ _ _ hu hol).mono ?_
      rintro e w' ⟨⟨z,rfl,hz⟩,hB2⟩
      rw [HV.out] at hz
      replace hB:=Below.trans hB (Below.mono hB2 hB.size)
      go_wp2
      go_ret
      exact ⟨⟨_,rfl,hz⟩,hB⟩
end Go.Proofs.YtgcieamfidoaoaaGreatDoor
/- The document's own Sub. -/
namespace Go.Proofs.YtgcieamfidoaoaaGreatDoor
open Go.RowKit
attribute [local go_sem ↓] oL
attribute [local go_sem] iy
structure yY (xs ys:List Nat) (k:Nat) (o:List Nat) (c:Nat):Prop where
 len:o.length=k
 lt:∀ x∈o,x<4294967296
 carry:c≤1
 val_eq:val o+pv ys k=pv xs k+c*4294967296^k
theorem yY.start (xs ys:List Nat):yY xs ys 0 [] 0:=⟨rfl,by simp,by omega,rfl⟩
theorem yY.step {xs ys:List Nat} {k:Nat} {o:List Nat} {c:Nat} (h:yY xs ys k o c) (hx:∀ x∈xs,x<4294967296) (hy:∀ x∈ys,x<4294967296) :
  yY xs ys (k+1) (o++[(4294967296+lb xs k-lb ys k-c)%4294967296]) (1-(4294967296+lb xs k-lb ys k-c)/4294967296):=by
 have h1:=dz hx k
 have h2:=dz hy k
 have h3:=h.carry
 refine ⟨by simp [h.len],rP h.lt (Nat.mod_lt _ (by decide)),by omega,?_⟩
 rw [DD,yK,yK,h.len,Nat.pow_succ]
 have e:=h.val_eq
 generalize 4294967296^k=B at *
 generalize lb xs k=p at *
 generalize lb ys k=q at *
 obtain ⟨d,hd⟩:∃ d,(4294967296+p-q-c)%4294967296=d:=⟨_,rfl⟩
 obtain ⟨f,hf⟩:∃ f,1-(4294967296+p-q-c)/4294967296=f:=⟨_,rfl⟩
 have e3:d+q+c=p+f*4294967296:=by omega
 rw [hd,hf]
 have e4:(d+q+c)*B=(p+f*4294967296)*B:=by rw [e3]
 rw [Nat.add_mul,Nat.add_mul,Nat.add_mul] at e4
 have e5:f*(B*4294967296)=f*4294967296*B:=by
  rw [Nat.mul_comm B 4294967296,← Nat.mul_assoc]
 rw [e5]
 omega
theorem yY.done {xs ys:List Nat} {o:List Nat} {c:Nat} (h:yY xs ys xs.length o c) (hl:ys.length≤xs.length) (hge:val ys≤val xs):val o=val xs-val ys:=by
 have e:=h.val_eq
 rw [DC xs _ (Nat.le_refl _),DC ys _ hl] at e
 have hlt:=mQ o h.lt
 rw [h.len] at hlt
 have hc:=h.carry
 generalize 4294967296^xs.length=B at *
 have:c=0∨c=1:=by omega
 rcases this with rfl | rfl<;>omega
set_option maxRecDepth 100000 in
theorem LG (w:World) (v u:Value) (n m:Nat) (h:Un w v n) (g:Un w u m) (hl:(limbs n).length≤100000000) (hl2:(limbs m).length≤100000000) (b:Bool) (hb:decide (m≤n)=b) (d:Nat) (hd:n-m=d) :
  Calls Tryz.prog 85 #[v,u] w fun e w'=>(∃ z,e = .returned (.tuple #[z,.bool b])∧Un w' z d)∧Below w.heap.size w w':=by
 obtain ⟨A,c,rfl,⟨hc,hm⟩,hx,hr⟩:=id h
 obtain ⟨A2,c2,rfl,⟨hc2,hm2⟩,hx2,hr2⟩:=id g
 clear hr hr2
 rcases Nat.lt_or_ge n m with hlt | hge
 · have HF:Hid (bN (val (limbs n):Nat) (val (limbs m):Nat) = -1):=by rw [Hid,aJ,aJ];exact lV (Int.ofNat_lt.2 hlt)
   obtain rfl:d=0:=by omega
   obtain rfl:b=false:=by rw [← hb,decide_eq_false_iff_not];omega
   clear hb hd hlt
   go_enter Tryz.func85,Tryz.ntmps85
   go_wp2_with (fail)
   refine (oM _ _ _ _ _ h g (by omega) (by omega)).mono ?_
   rintro e w' ⟨rfl,rfl⟩
   rw [HF.out]
   go_wp2
   go_ret2
   exact ⟨⟨_,rfl,J3 _⟩,Below.refl _ _⟩
 · have HF:Hid (0≤bN (val (limbs n):Nat) (val (limbs m):Nat)):=by
    rw [Hid,aJ,aJ]
    rcases Nat.lt_or_ge m n with h1 | h1
    · rw [ni (Int.ofNat_lt.2 h1)];decide
    · obtain rfl:n=m:=by omega
      rw [qQ];decide
   obtain rfl:b=true:=by rw [← hb,decide_eq_true_iff];omega
   have HD:=Lib.hid hd
   have HG:=Lib.hid hge
   have hll:=jr hge
   clear hb hd hge
   obtain ⟨K,hK⟩:∃ K,bN (val (limbs n):Nat) (val (limbs m):Nat)=K:=⟨_,rfl⟩
   have hK0:0≤K:=by rw [← hK];exact HF.out
   clear HF
   go_enter Tryz.func85,Tryz.ntmps85
   go_wp2_with (fail)
   refine (oM _ _ _ _ _ h g (by omega) (by omega)).mono ?_
   rintro e w' ⟨rfl,rfl⟩
   rw [hK]
   clear hK
   go_wp2_with (fail)
   have hown0:Own (w.alloc (.cells #[] 57)) w.heap.size (.slice (some ⟨w.heap.size,0,none⟩) 0 0) []:=World.ownsRow_lit w #[] 0 (Nat.le_refl _) (Nat.zero_le _) rfl
   have hB0:Below w.heap.size w (w.alloc (.cells #[] 57)):=(Below.refl _ _).alloc (Nat.le_refl _) _
   go_loopw [6,7,8] (fun s cv i wr=>∃ (k cy:Nat) (o:List Nat),k≤(limbs n).length∧i = .int .i64 k∧cv = .int .u64 cy∧Hid (yY (limbs n) (limbs m) k o cy)∧Own wr w.heap.size s o∧Below w.heap.size w wr) (fun _ _ i _=>(limbs n).length-(intOf i).toNat)
   case atStart=>exact ⟨0,0,[],Nat.zero_le _,rfl,rfl,yY.start _ _,hown0,hB0⟩
   case round =>
    clear hown0 hB0
    obtain ⟨k,cy,o,hk,rfl,rfl,HO,hown,hB⟩:=hrel
    by_cases hd1:k<(limbs n).length
    · have h1:=dz hx k
      have h2:=dz hx2 k
      have h3:=HO.out.carry
      have hlen:=HO.out.len
      obtain ⟨x1,hx1⟩:∃ x1,(4294967296+lb (limbs n) k-lb (limbs m) k-cy)%4294967296=x1:=⟨_,rfl⟩
      obtain ⟨c1,hc1⟩:∃ c1,1-(4294967296+lb (limbs n) k-lb (limbs m) k-cy)/4294967296=c1:=⟨_,rfl⟩
      have NH:Hid (yY (limbs n) (limbs m) (k+1) (o++[x1]) c1):=by rw [Hid,← hx1,← hc1];exact HO.out.step hx hx2
      obtain ⟨v',w',hrun,hown',hB'⟩:=lH hB hown ((4294967296+((lb (limbs n) k:Nat):Int)-((lb (limbs m) k:Nat):Int)-(cy:Int))%4294967296) x1 (by rw [← hx1];omega) (by rw [← hx1];exact Nat.mod_lt _ (by decide)) (by omega)
      obtain ⟨t1,t2,t3⟩:=jc hrun
      have NI:Hid (1-(4294967296+((lb (limbs n) k:Nat):Int)-((lb (limbs m) k:Nat):Int)-(cy:Int))/4294967296=(c1:Int)):=by rw [Hid,← hc1];omega
      clear hrun hx1 hc1 hlen
      go_wp2_with (fail)
      refine (dB _ _ (limbs n) _ k rfl (U.below h hB)).mono ?_
      rintro e w' ⟨rfl,rfl⟩
      go_wp2_with (fail)
      refine (dB _ _ (limbs m) _ k rfl (U.below g hB)).mono ?_
      rintro e w' ⟨rfl,rfl⟩
      go_wp2_with (fail)
      go_roundw
      case rel=>exact ⟨k+1,c1,_,by omega,by go_num,by rw [NI.out],NH,hown',hB'⟩
      case measure=>simp [intOf];omega
    · have hlen:=HO.out.len
      obtain rfl:k=(limbs n).length:=by omega
      have HV:Hid (val o=d):=by rw [Hid,HO.out.done hll (by rw [aJ,aJ];exact HG.out),aJ,aJ];exact HD.out
      have hu:=hown.BJ HO.out.lt (by omega)
      have hol:o.length≤1000000000:=by omega
      clear hlen
      go_wp2_with (fail)
      refine (dZ _ _ _ hu hol).mono ?_
      rintro e w' ⟨⟨z,rfl,hz⟩,hB2⟩
      have hz2:Un w' z d:=by rw [← HV.out];exact hz
      replace hB:=Below.trans hB (Below.mono hB2 hB.size)
      clear hz
      go_wp2
      go_ret2
      exact ⟨⟨_,rfl,hz2⟩,hB⟩
end Go.Proofs.YtgcieamfidoaoaaGreatDoor
/- The document's own Shl. -/
namespace Go.Proofs.YtgcieamfidoaoaaGreatDoor
open Go.RowKit
attribute [local go_sem ↓] oL
attribute [local go_sem] iy
structure BL (xs:List Nat) (q P k:Nat) (o:List Nat) (c:Nat):Prop where
 len:o.length=q+k
 lt:∀ x∈o,x<4294967296
 carry:c<P
 val_eq:val o+c*4294967296^(q+k)=pv xs k*P*4294967296^q
theorem BL.start (xs:List Nat) (q P:Nat) (hP:0<P):BL xs q P 0 (List.replicate q 0) 0 :=
 ⟨by simp,by intro x hx;have:=List.eq_of_mem_replicate hx;omega,hP,by rw [dM,Wj];simp⟩
theorem BL.step {xs:List Nat} {q P k:Nat} {o:List Nat} {c:Nat} (h:BL xs q P k o c) (hx:∀ x∈xs,x<4294967296) :
  BL xs q P (k+1) (o++[(lb xs k*P+c)%4294967296]) ((lb xs k*P+c)/4294967296):=by
 have h1:=dz hx k
 have h3:=h.carry
 have h4:lb xs k*P+c<4294967296*P:=by
  have:=Nat.mul_le_mul_right P (show lb xs k+1≤4294967296 by omega)
  rw [Nat.add_mul] at this;omega
 refine ⟨by simp [h.len];omega,rP h.lt (Nat.mod_lt _ (by decide)),by rw [Nat.div_lt_iff_lt_mul (by decide),Nat.mul_comm P];exact h4,?_⟩
 rw [DD,yK,h.len,← Nat.add_assoc,Nat.pow_succ,Nat.pow_add 4294967296 q k]
 have e:=h.val_eq
 rw [Nat.pow_add] at e
 generalize 4294967296^k=B at *
 generalize 4294967296^q=C at *
 obtain ⟨X,hX⟩:∃ X,lb xs k*P+c=X:=⟨_,rfl⟩
 have e3:X=X%4294967296+X/4294967296*4294967296:=by omega
 have e4:X*(C*B)=X%4294967296*(C*B)+X/4294967296*(C*B*4294967296):=by
  conv=>lhs;rw [e3]
  rw [Nat.add_mul,Nat.mul_assoc (X/4294967296),Nat.mul_comm 4294967296]
 have e5:X*(C*B)=lb xs k*P*(C*B)+c*(C*B):=by rw [← hX,Nat.add_mul]
 have e6:lb xs k*P*(C*B)=lb xs k*B*P*C:=by
  rw [Nat.mul_comm C B,← Nat.mul_assoc,Nat.mul_right_comm (lb xs k) P B]
 rw [hX,Nat.add_mul,Nat.add_mul]
 omega
theorem BL.done {xs:List Nat} {q P k:Nat} {o:List Nat} {c:Nat} (h:BL xs q P (k+1) o c) (hx:∀ x∈xs,x<4294967296) (h1:xs.length≤k) (hP:P<4294967296) :
  val o=val xs*P*4294967296^q:=by
 have e:=h.val_eq
 have a1:=Tt xs k hx
 rw [DC xs _ (by omega)] at e a1
 have hc:c=0:=by
  rcases Nat.eq_zero_or_pos c with h0 | h0
  · exact h0
  · exfalso
    have b1:4294967296^(q+(k+1))≤c*4294967296^(q+(k+1)):=Nat.le_mul_of_pos_left _ h0
    have b2:val xs*P<4294967296^(k+1):=by
     rw [Nat.pow_succ]
     exact Nat.mul_lt_mul'' a1 hP
    have b3:val xs*P*4294967296^q<4294967296^(k+1)*4294967296^q:=Nat.mul_lt_mul_of_pos_right b2 (Nat.pow_pos (by decide))
    rw [← Nat.pow_add,Nat.add_comm (k+1) q] at b3
    omega
 subst hc
 omega
end Go.Proofs.YtgcieamfidoaoaaGreatDoor
/- The contracts of the document's own functions, in one form. -/
namespace Go.Proofs.YtgcieamfidoaoaaGreatDoor
open Go.RowKit
theorem Bd (w:World) (v:Value) (xs:List Nat) (h:U w v xs) (hl:xs.length≤1000000000) (n:Nat) (hn:val xs=n) :
  Calls Tryz.prog 100 #[v] w fun e w'=>∃ u,e = .returned u∧Un w' u n∧Ext w w' :=
 (dZ w v xs h hl).mono fun e w' ⟨⟨u,he,hu⟩,hw⟩=>⟨u,he,by rw [Un,← hn];exact hu,hw⟩
theorem TZ (w:World) (v:Value) (n:Nat) (h:Un w v n) (hl:(limbs n).length≤1000000000) (k:Int) (hk:((bJ n:Nat):Int)=k) :
  Calls Tryz.prog 131 #[v] w fun e w'=>e = .returned (.int .i64 k)∧Ext w w' :=
 (JP w v n h hl).mono fun e w' ⟨he,m,hw⟩=>⟨by rw [he,hk],by rw [hw];exact iF w m⟩
theorem XT (w:World) (v:Value) (n:Nat) (i:Int) (h:Un w v n) (hi0 : -9000000000000≤i) (hi1:i≤9000000000000) (k:Int) (hk:((qp n i:Nat):Int)=k) :
  Calls Tryz.prog 37 #[v,.int .i64 i] w fun e w'=>e = .returned (.int .u32 k)∧Ext w w' :=
 (LD w v n i hi0 hi1 h).mono fun e w' ⟨he,hw⟩=>⟨by rw [he,hk],by rw [← hw];exact Ext.refl w⟩
theorem jk (w:World) (v u:Value) (n m:Nat) (h:Un w v n) (g:Un w u m) (hl:(limbs n).length≤1000000000) (hl2:(limbs m).length≤1000000000) (k:Int) (hk:bN n m=k) :
  Calls Tryz.prog 47 #[v,u] w fun e w'=>e = .returned (.int .i64 k)∧Ext w w' :=
 (oM w v u _ _ h g hl hl2).mono fun e w' ⟨he,hw⟩=>⟨by rw [he,aJ,aJ,hk],by rw [← hw];exact Ext.refl w⟩
theorem Y7 (w:World) (v u:Value) (n m:Nat) (h:Un w v n) (g:Un w u m) (hm:(limbs n).length≤100000000) (hm2:(limbs m).length≤100000000) (s:Nat) (hs:n+m=s) :
  Calls Tryz.prog 77 #[v,u] w fun e w'=>∃ z,e = .returned z∧Un w' z s∧Ext w w':=by
 subst hs
 have:=LF w v u _ _ h g hm hm2
 rw [aJ,aJ] at this
 exact this.mono fun e w' ⟨⟨z,he,hz⟩,hb⟩=>⟨z,he,hz,hb⟩
theorem QR (w:World) (v u:Value) (n m:Nat) (h:Un w v n) (g:Un w u m) (hm:(limbs n).length≤100000000) (hm2:(limbs m).length≤100000000) (b:Bool) (hb:decide (m≤n)=b) (d:Nat) (hd:n-m=d) :
  Calls Tryz.prog 85 #[v,u] w fun e w'=>∃ z,e = .returned (.tuple #[z,.bool b])∧Un w' z d∧Ext w w' :=
 (LG w v u n m h g hm hm2 b hb d hd).mono fun e w' ⟨⟨z,he,hz⟩,hb⟩=>⟨z,he,hz,hb⟩
end Go.Proofs.YtgcieamfidoaoaaGreatDoor
