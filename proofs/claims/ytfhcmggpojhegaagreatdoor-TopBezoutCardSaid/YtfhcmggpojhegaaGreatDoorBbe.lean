/- The noughts ahead of a text fall. -/
import Derived.Test.YtfhcmggpojhegaaGreatDoorBah
import Derived.Test.YtfhcmggpojhegaaGreatDoorBbc
import Derived.Test.YtfhcmggpojhegaaGreatDoorBan
import Derived.Test.YtfhcmggpojhegaaGreatDoorBar
import Derived.Test.YtfhcmggpojhegaaGreatDoorBbd
import Derived.Ground.NamesProg
import Derived.Shelf.Lay
import Derived.Shelf.Strings.SlTrimAscii
import Derived.Laws.IdiomStrings

namespace Go.Proofs
open Go.Shelf
shelf_lay Lays.n161 Nm 161 at Tryz as Tryz.adO
end Go.Proofs
namespace Go.Proofs.YtfhcmggpojhegaaGreatDoor
open Go.RowKit Go.Shelf Go.Lib
set_option linter.unusedVariables false
set_option maxHeartbeats 1000000
theorem FZ (w:World) (ds:List Nat) (h:∀ d∈ds,d<36) :
  Calls Tryz.prog 102 #[.string (gD ds),.string ⟨#[48]⟩] w fun e w'=>e = .returned (.string (gD (gQ ds)))∧Ext w w':=by
 have hcon:=Any.strings_TrimLeft_laid Tryz.adO (by kernel_rfl) (gD ds) ⟨#[48]⟩ w (by decide) (ascii_of_all (by decide))
 have e:(⟨(Lib.trimLeftS (gD ds).data.toList [48]).toArray⟩:ByteArray)=gD (gQ ds):=by
  rw [Cg,PL ds h];rfl
 change Calls Tryz.prog 102 _ _ (fun e w'=>e = .returned (.string ⟨(Lib.trimLeftS (gD ds).data.toList [48]).toArray⟩)∧Below w.heap.size w w') at hcon
 rw [e] at hcon
 exact hcon
end Go.Proofs.YtfhcmggpojhegaaGreatDoor
/- Digits are read chunk by chunk: plain mathematics. -/
namespace Go.Proofs.YtfhcmggpojhegaaGreatDoor
set_option linter.unusedVariables false
set_option maxHeartbeats 400000
theorem JN (L n k:Nat) (hn:1≤n) (hL:1≤L) (hk:(L-1)%n+1=k):k≤n∧k≤L∧(L-k)%n=0:=by
 have h1:=Nat.mod_lt (L-1) (show n>0 by omega)
 have h2:=Nat.mod_le (L-1) n
 have h3:=Nat.div_add_mod (L-1) n
 have h4:L-k=n*((L-1)/n):=by omega
 exact ⟨by omega,by omega,by rw [h4];exact Nat.mul_mod_right _ _⟩
theorem Qv (L n k:Nat) (hn:1≤n) (hL:1≤L) (h0:L%n=0) (hk:(L-1)%n+1=k):k=n:=by
 obtain ⟨h1,h2,h3⟩:=JN L n k hn hL hk
 have a1:=Nat.div_add_mod L n
 have a2:=Nat.div_add_mod (L-k) n
 rw [h0] at a1
 rw [h3] at a2
 have e:n*(L/n)=n*((L-k)/n)+k:=by omega
 have e2:n*(L/n)-n*((L-k)/n)=k:=by omega
 rw [← Nat.mul_sub] at e2
 have hk0:1≤k:=by omega
 rcases Nat.eq_zero_or_pos (L/n-(L-k)/n) with h | h
 · rw [h,Nat.mul_zero] at e2;omega
 · have:=Nat.mul_le_mul_left n h
   rw [Nat.mul_one] at this
   omega
structure Xa (b n:Nat) (ds:List Nat) (i a:Nat):Prop where
 le:i≤ds.length
 val:a=fF b (ds.take i)
 at_:i=0∨(ds.length-i)%n=0
theorem Xa.start (b n:Nat) (ds:List Nat):Xa b n ds 0 0:=⟨Nat.zero_le _,rfl,.inl rfl⟩
theorem Xa.step {b n:Nat} {ds:List Nat} {i a:Nat} (h:Xa b n ds i a) (hn:1≤n) (hi:i<ds.length) (k:Nat) (hk:(ds.length-i-1)%n+1=k) :
  k≤n∧i+k≤ds.length∧Xa b n ds (i+k) (a*b^n+fF b ((ds.drop i).take k)):=by
 obtain ⟨h1,h2,h3⟩:=JN (ds.length-i) n k hn (by omega) hk
 refine ⟨h1,by omega,by omega,?_,.inr (by rw [show ds.length-(i+k)=ds.length-i-k by omega];exact h3)⟩
 have e:ds.take (i+k)=ds.take i++(ds.drop i).take k:=List.take_add
 rw [e,ou,h.val]
 have hl:((ds.drop i).take k).length=k:=by rw [List.length_take,List.length_drop];omega
 rw [hl]
 rcases h.at_ with h0 | h0
 · subst h0
   rw [List.take_zero,XA,Nat.zero_mul,Nat.zero_mul]
 · rw [Qv (ds.length-i) n k hn (by omega) h0 hk]
theorem Xa.done {b n:Nat} {ds:List Nat} {a:Nat} (h:Xa b n ds ds.length a):a=fF b ds:=by
 rw [h.val,List.take_length]
theorem Qw (b:Nat) (cs:List Nat) (j:Nat) (h:j<cs.length):fF b (cs.take (j+1))=fF b (cs.take j)*b+lb cs j:=by
 have e:cs.take (j+1)=cs.take j++[cs[j]]:=(List.take_append_getElem h).symm
 rw [e,sj]
 unfold lb
 simp [h]
theorem Qx (b n p:Nat) (hS:Sc b n p) (cs:List Nat) (hl:cs.length≤n) (h:∀ d∈cs,d<b):fF b cs<4294967296:=by
 have h1:=wY b cs h
 have h2:b^cs.length≤b^n:=Nat.pow_le_pow_right (by have:=hS.b2;omega) hl
 have h3:=hS.fit
 rw [hS.pw] at h3
 omega
theorem YV (b:Nat) (ds:List Nat) (c:Nat) (h:c≤ds.length):fF b ds=fF b (ds.take c)*b^(ds.length-c)+fF b (ds.drop c):=by
 have:=ou b (ds.take c) (ds.drop c)
 rw [List.take_append_drop,List.length_drop] at this
 exact this
end Go.Proofs.YtfhcmggpojhegaaGreatDoor
/- The document's Worth: digits modulo a prime. -/
namespace Go.Proofs.YtfhcmggpojhegaaGreatDoor
open Go.RowKit
set_option linter.unusedVariables false
set_option maxHeartbeats 400000
theorem TW (ds:List Nat) (h:∀ d∈ds,d<36) (i:Nat) (hi:i<(gD ds).size):((gD ds)[i]'hi).toNat=jg (lb ds i):=by
 have hi2:i<ds.length:=by rwa [mM] at hi
 have e:(gD ds)[i]'hi=UInt8.ofNat (jg (ds[i]'hi2)):=by
  show ((lM ds).toArray)[i]'_=_
  simp [lM]
 rw [e,Fp (h _ (List.getElem_mem hi2))]
 unfold lb
 simp [hi2]
theorem Qy (ds:List Nat) (i:Nat) (h:i<ds.length):lb ds i∈ds:=by
 unfold lb
 simp [h]
end Go.Proofs.YtfhcmggpojhegaaGreatDoor
/- What a byte is worth; a base's scale. -/
namespace Go.Proofs.YtfhcmggpojhegaaGreatDoor
open Go.RowKit
set_option linter.unusedVariables false
set_option maxHeartbeats 400000
set_option maxRecDepth 100000 in
theorem vO (w:World) (c:Nat) (h:c<256) :
  Calls Tryz.prog 96 #[.int .u8 (c:Nat)] w fun e w'=>e = .returned (.int .u32 (sw c:Nat))∧w'=w:=by
 have hc:c≤47∨(48≤c∧c≤57)∨(58≤c∧c≤96)∨(97≤c∧c≤122)∨123≤c:=by omega
 have hw:sw c=if 48≤c∧c≤57 then c-48 else if 97≤c∧c≤122 then c-97+10 else 99:=rfl
 generalize sw c=r at *
 rcases hc with hc | hc | hc | hc | hc
 · obtain rfl:r=99:=by rw [hw,if_neg (by omega),if_neg (by omega)]
   clear hw
   go_enter Tryz.func96,Tryz.ntmps96
   go_wp2
   go_ret
   exact ⟨rfl,rfl⟩
 · obtain rfl:r=c-48:=by rw [hw,if_pos (by omega)]
   obtain ⟨d,rfl⟩:∃ d,c=d+48:=⟨c-48,by omega⟩
   clear hw
   go_enter Tryz.func96,Tryz.ntmps96
   go_wp2
   go_ret
   exact ⟨by go_num,rfl⟩
 · obtain rfl:r=99:=by rw [hw,if_neg (by omega),if_neg (by omega)]
   clear hw
   go_enter Tryz.func96,Tryz.ntmps96
   go_wp2
   go_ret
   exact ⟨rfl,rfl⟩
 · obtain rfl:r=c-97+10:=by rw [hw,if_neg (by omega),if_pos (by omega)]
   obtain ⟨d,rfl⟩:∃ d,c=d+97:=⟨c-97,by omega⟩
   clear hw
   go_enter Tryz.func96,Tryz.ntmps96
   go_wp2
   go_ret
   exact ⟨by go_num,rfl⟩
 · obtain rfl:r=99:=by rw [hw,if_neg (by omega),if_neg (by omega)]
   clear hw
   go_enter Tryz.func96,Tryz.ntmps96
   go_wp2
   go_ret
   exact ⟨rfl,rfl⟩
end Go.Proofs.YtfhcmggpojhegaaGreatDoor
/- A small piece of digits is read. -/
namespace Go.Proofs.YtfhcmggpojhegaaGreatDoor
open Go.RowKit
set_option linter.unusedVariables false
set_option maxHeartbeats 400000
theorem Cy (es:List Nat) (k:Nat):(gD es).extract 0 k=gD (es.take k):=by
 show (ByteArray.mk (lM es).toArray).extract 0 k=ByteArray.mk (lM (es.take k)).toArray
 rw [ByteArray.extract_mk,List.drop_zero,Nat.sub_zero]
 simp [lM,List.map_take]
theorem JR (es:List Nat) (k:Nat):(gD es).extract k (gD es).size=gD (es.drop k):=by
 rw [mM]
 show (ByteArray.mk (lM es).toArray).extract k es.length=ByteArray.mk (lM (es.drop k)).toArray
 rw [ByteArray.extract_mk,List.take_of_length_le (by rw [List.length_drop,sD];exact Nat.le_refl _)]
 simp [lM,List.map_drop]
theorem Y4 (wr:World) (cs:List Nat) (hd:∀ d∈cs,d<36):∃ cap w1,(convert 9 143 (.string (gD cs))).run Tryz.prog wr = .ok (.slice (some ⟨wr.heap.size,0,none⟩) cs.length cap) w1∧Ext wr w1∧wr.heap.size<w1.heap.size ∧
  ∀ j,j<cs.length→w1.cell? ⟨wr.heap.size,j,none⟩=some (.int .u8 (jg (lb cs j):Nat)):=by
 have h:=run_bytes_of_string (P:=Tryz.prog) wr 9 143 5 (gD cs) Tryz.underlying9 Tryz.underlying143 Tryz.underlying5
 generalize grownCap wr (gD cs).size 0 5 = cap at h
 have hE:Ext wr (wr.drew.alloc (.cells (bytesRow (gD cs) cap) 5 ((bytesRow (gD cs) cap).size,(bytesRow (gD cs) cap).size+1))):=((Ext.refl wr).drew).alloc _
 refine ⟨cap,_,by rw [h,mM],hE,by simp,fun j hj=>?_⟩
 have hj2:j<(gD cs).data.size:=by
  show j<((lM cs).toArray).size
  rw [List.size_toArray,sD];exact hj
 have h1:=World.cell?_alloc_mark wr.drew (bytesRow (gD cs) cap) 5 ((bytesRow (gD cs) cap).size,(bytesRow (gD cs) cap).size+1) j
 rw [bytesRow_at (gD cs) cap j hj2] at h1
 have h2:((gD cs).data[j]'hj2).toNat=jg (lb cs j):=TW cs hd j hj2
 rw [h2] at h1
 exact h1
theorem ahA {b n p i a:Nat} {ds:List Nat} (hS:Sc b n p) (hd:∀ d∈ds,d<b) (hl:ds.length≤16*n) (h:Xa b n ds i a):(limbs a).length≤398:=by
 have h1:=wY b (ds.take i) (fun d hd2=>hd d (List.mem_of_mem_take hd2))
 have hle:=h.le
 have h2:(ds.take i).length≤16*n:=by rw [List.length_take];omega
 have h3:b^(ds.take i).length≤b^(16*n):=Nat.pow_le_pow_right (by have:=hS.b2;omega) h2
 have h4:b^(16*n)=p^16:=by rw [hS.pw,← Nat.pow_mul,Nat.mul_comm]
 have h5:p^16≤LB^16:=Nat.pow_le_pow_left (by have:=hS.fit;unfold LB;omega) 16
 refine Nat.le_trans (jO (k:=16) ?_) (by omega)
 rw [h.val]
 omega
theorem F4 {p:Nat} (h:p<4294967296):(limbs p).length≤398:=Nat.le_trans (jO (k:=1) (by unfold LB;simpa using h)) (by omega)
set_option maxRecDepth 100000 in
set_option maxHeartbeats 4000000 in
theorem NJ (w:World) (b n p:Nat) (hS:Sc b n p) (ds:List Nat) (hd:∀ d∈ds,d<b) (hl:ds.length≤16*n) :
  Calls Tryz.prog 101 #[SV b n p,.string (gD ds)] w fun e w'=>∃ u,e = .returned u∧Un w' u (fF b ds)∧Ext w w':=by
 have ahu:=hS.n32
 have hn1:=hS.n1
 have YU:=hS.b36
 have hp2:=hS.p2
 have hpf:=hS.fit
 have F5:Hid (∀ d∈ds,d<36):=fun d h=>by have:=hd d h;omega
 have HDB:=Lib.hid hd
 have hE0:=(Ext.refl w).alloc (.cells #[.int .u32 (b:Nat),.int .i64 (n:Nat),.int .u32 (p:Nat)] 135)
 have D5:=DY.new w b n p
 obtain ⟨L,hL⟩:∃ L,ds.length=L:=⟨_,rfl⟩
 have HL:=Lib.hid hL
 have WX:=Lib.hid (Xa.start b n ds)
 have hsz0:=mM ds
 have hS0:Hid (gD ds=gD (ds.drop 0)):=by rw [List.drop_zero];rfl
 have hLn:=Lib.hid (fun i a (h:Xa b n ds i a)=>ahA hS hd hl h)
 rw [hL] at hsz0 hl
 generalize gD ds=S0 at *
 clear hd hL
 have hnil:=Fg (w.alloc (.cells #[.int .u32 (b:Nat),.int .i64 (n:Nat),.int .u32 (p:Nat)] 135))
 go_enter Tryz.func101,Tryz.ntmps101
 go_wp2
 generalize (w.alloc (.cells #[.int .u32 (b:Nat),.int .i64 (n:Nat),.int .u32 (p:Nat)] 135))=w1 at *
 go_loopw [1,5] (fun t s wr=>∃ (i a x:Nat) (S:ByteArray),t = .string S∧Hid (S=gD (ds.drop i))∧S.size=x∧Hid (i+x=L)∧Un wr s a∧Hid (Xa b n ds i a)∧DY wr w.heap.size b n p∧Ext w wr) (fun t _ _=>match t with | .string S=>S.size | _=>0)
 case atStart=>exact ⟨0,0,L,S0,rfl,hS0,hsz0,Nat.zero_add _,hnil,WX,D5,hE0⟩
 case round =>
  clear WX hnil D5 hE0 hsz0 hS0
  obtain ⟨i,a,x,S,rfl,HS,hsz,hix,AP,HR,D5,hE⟩:=hrel
  obtain ⟨A,l,c,rfl⟩:=U.sl AP
  by_cases hx0:x=0
  · subst hx0
    have HU:Hid (Un wr (.slice A l c) (fF b ds)):=by
     have hiL:i=ds.length:=by have:=hix.out;have:=HL.out;omega
     have hR:=HR.out
     subst hiL
     rw [← hR.done]
     exact AP
    clear HR AP hix HS
    go_wp2
    go_ret
    exact ⟨_,rfl,HU.out,hE⟩
  · obtain ⟨s0,s1,s2,s3⟩:=id D5
    obtain ⟨k,hk⟩:∃ k,(x-1)%n+1=k:=⟨_,rfl⟩
    have hiL:i<ds.length:=by have:=hix.out;have:=HL.out;omega
    have hstep:=HR.out.step hn1 hiL k (by rw [show ds.length-i-1=x-1 by have:=hix.out;have:=HL.out;omega];exact hk)
    obtain ⟨cs,hcs⟩:∃ cs,(ds.drop i).take k=cs:=⟨_,rfl⟩
    rw [hcs,← hS.pw] at hstep
    obtain ⟨hkn,hik,hR2⟩:=hstep
    have hx5:x≤496:=by have:=hix.out;have:=HL.out;omega
    have hkx:k≤x:=by have:=hix.out;have:=HL.out;omega
    have hcl:cs.length=k:=by rw [← hcs,List.length_take,List.length_drop];have:=hix.out;have:=HL.out;omega
    have hcb:∀ d∈cs,d<b:=fun d h=>HDB.out d (List.mem_of_mem_drop (List.mem_of_mem_take (by rw [hcs];exact h)))
    have hT:S.extract 0 k=gD cs:=by rw [HS.out,Cy,hcs]
    have hSd:S.extract k x=gD (ds.drop (i+k)):=by rw [← hsz,HS.out,JR,List.drop_drop]
    obtain ⟨S2,hS2⟩:∃ S2,S.extract k x=S2:=⟨_,rfl⟩
    rw [hS2] at hSd
    have HSd:=Lib.hid hSd
    have ahB:Hid (S2.size=x-k):=by
     show S2.size=x-k
     rw [hSd,mM,List.length_drop]
     have:=hix.out
     have:=HL.out
     omega
    have hk1:1≤k:=by omega
    obtain ⟨cap,wa,hcv,hEa,hga,hcell⟩:=Y4 wr cs (fun d h=>by have:=hcb d h;omega)
    rw [hcl] at hcv
    have o1:(x:Int)-1=((x-1:Nat):Int):=by omega
    obtain ⟨y,hy⟩:∃ y,x-1=y:=⟨_,rfl⟩
    rw [hy] at hk o1
    obtain ⟨r,hr⟩:∃ r,y%n=r:=⟨_,rfl⟩
    rw [hr] at hk
    have o2:(y:Int).tmod (n:Int)=(r:Int):=by rw [Int.tmod_eq_emod_of_nonneg (Int.natCast_nonneg _),← hr,Int.natCast_emod]
    have o3:(y:Int)%(n:Int)=(r:Int):=by rw [← hr,Int.natCast_emod]
    have o4:(r:Int)+1=(k:Int):=by omega
    have o5:¬ ((n:Int)=0):=by omega
    have o6:(0:Int)<(x:Int):=by omega
    have o7:y≤496:=by omega
    have o8:r≤31:=by have:=Nat.mod_lt y (show n>0 by omega);omega
    have HR2:=Lib.hid hR2
    have HC:=Lib.hid hcell
    have XN:=Lib.hid hcl
    have HCB:=Lib.hid hcb
    have asr:Un wa (.slice A l c) a:=AP.below hEa
    have ahC:=D5.ext hEa
    have hE1:=hE.below hEa
    have hla:=Lib.hid (hLn.out i a HR.out)
    have HS2:=Lib.hid hS2
    have hsz2:=Lib.hid hsz
    clear hS2
    have hst:Hid (gD cs=S.extract 0 k):=hT.symm
    have hxk:=Lib.hid hkx
    generalize gD cs=T at *
    have IQ:=Lib.hid (Cy cs k)
    clear hy hr hk hR2 hcell hcl hcb hcs AP hE hEa HR HS hSd hx0 IQ hst
    go_wp2
    clear hcv hT hsz o1 o2 o3 o4 o5 o6 o7 o8
    generalize wr.heap.size=G at *
    have amy:Hid (0=fF b (cs.take 0)):=by rw [List.take_zero];rfl
    go_loopw [25,7] (fun t s w4=>∃ (j ch:Nat),j≤k∧t = .int .i64 (j:Nat)∧s = .int .u64 (ch:Nat)∧ch<4294967296∧Hid (ch=fF b (cs.take j))∧Ext wa w4) (fun t _ _=>k-(intOf t).toNat)
    case atStart=>exact ⟨0,0,Nat.zero_le _,rfl,rfl,by omega,amy,Ext.refl _⟩
    case round =>
     clear amy
     obtain ⟨j,ch,hj,rfl,rfl,amz,HO,bX⟩:=hrel
     by_cases hlt:j<k
     · have hj1:(j:Int)<(k:Int):=by omega
       have hj0:(0:Int)≤(j:Int):=by omega
       have hc4:=(bX.cell (p:=⟨G,j,none⟩) hga).trans (HC.out j (by have:=XN.out;omega))
       have hpush:=Qw b cs j (by rw [XN.out];exact hlt)
       have hdb:lb cs j<b:=HCB.out _ (Qy cs j (by rw [XN.out];exact hlt))
       obtain ⟨d,hd⟩:∃ d,lb cs j=d:=⟨_,rfl⟩
       rw [hd] at hc4 hpush hdb
       have F5:d<36:=by omega
       have hwd:=Ju F5
       have hdl:=KH F5
       obtain ⟨y,hy⟩:∃ y,ch*b=y:=⟨_,rfl⟩
       rw [← HO.out,hy] at hpush
       have hnew:y+d<4294967296:=by
        rw [← hpush]
        exact Qx b n p hS (cs.take (j+1)) (by rw [List.length_take,XN.out];omega) (fun d h=>HCB.out d (List.mem_of_mem_take h))
       obtain ⟨z,hz⟩:∃ z,y+d=z:=⟨_,rfl⟩
       rw [hz] at hpush hnew
       have o1:(ch:Int)*(b:Int)=(y:Int):=by rw [← hy];exact (Int.natCast_mul ch b).symm
       have o2:=iP (show y<18446744073709551616 by omega)
       have o3:=iY (show b<18446744073709551616 by omega)
       have o4:=iP (show b<18446744073709551616 by omega)
       have o5:=iP (show d<18446744073709551616 by omega)
       have o6:=iY (show d<18446744073709551616 by omega)
       have o7:(y:Int)+(d:Int)=(z:Int):=by omega
       have o8:=iP (show z<18446744073709551616 by omega)
       have o9:=iY (show y<18446744073709551616 by omega)
       have o10:=iY (show z<18446744073709551616 by omega)
       obtain ⟨q0,q1,q2,q3⟩:=ahC.ext bX
       have HST:Hid (z=fF b (cs.take (j+1))):=hpush.symm
       generalize jg d=D at *
       clear hd hy hz hpush amz HO s0 s1 s2 s3
       go_wp2_with (fail)
       have amA:D<256:=by omega
       have hwc:=fun W=>vO W D amA
       rw [hwd] at hwc
       go_quiet (first | (go_at_call 96;refine Calls.quiet_of_same (hwc _)))
       go_wp2
       go_roundw
       case rel=>exact ⟨j+1,z,by omega,by go_num,rfl,hnew,HST,bX.below (sK _ _)⟩
       case measure=>simp [intOf];omega
     · obtain rfl:j=k:=by omega
       have amB:ch=fF b cs:=by rw [HO.out,← XN.out,List.take_length]
       have hHR:Hid (Xa b n ds (i+j) (a*p+ch)):=by rw [amB];exact HR2.out
       have ast:=Lib.hid (hLn.out _ _ hHR.out)
       have amC:Un wr (.slice A l c) a:=asr.below bX
       have hp5:=YX wr p (by omega) hpf
       have asu:=Un.alloc amC (.cells #[.int .u32 (p:Nat)] 27)
       obtain ⟨q0,q1,q2,q3⟩:=ahC.ext bX
       have amD:=ahC.ext bX
       have bE:=(hE1.below bX).alloc (.cells #[.int .u32 (p:Nat)] 27)
       have ahv:=amD.ext ((Ext.refl wr).alloc (.cells #[.int .u32 (p:Nat)] 27))
       have asv:Hid ((limbs (a*p)).length≤1000000000):=Nat.le_trans (eZ (Nat.le_add_right _ ch)) (Nat.le_trans ast.out (by omega))
       have asw:Hid ((limbs ch).length≤1000000000):=Nat.le_trans (F4 amz) (by omega)
       have amE:=HS2.out
       have amF:=hxk.out
       obtain ⟨x2,hx2⟩:∃ x2,x-j=x2:=⟨_,rfl⟩
       have asx:Hid (i+j+x2=L):=by have:=hix.out;show i+j+x2=L;omega
       rw [hx2] at ahB
       have asy:Hid (x2<x):=by show x2<x;omega
       have hlp:=Lib.hid (F4 hpf)
       clear HO amB amC amD hx2 D5 hE1 bX hix hlt s0 s1 s2 s3 amE amF
       have amE:=HS2.out
       have amF:=hxk.out
       have hsz:=hsz2.out
       go_wp2_with (first
        | (go_at_call 17;refine (mulN _ _ _ a p _ asu hp5 hla.out hlp.out rfl).mono ?_;rintro e w6 ⟨u6,rfl,hu6,bu⟩;obtain ⟨A6,l6,c6,rfl⟩:=U.sl hu6)
        | (go_at_call 62;refine (of_B _ (ch:Int) (by omega) (by omega) ch (by omega)).mono ?_;rintro e w7 ⟨u7,rfl,hu7,cB⟩;obtain ⟨A7,l7,c7,rfl⟩:=U.sl hu7;have asz:=Un.below hu6 cB)
        | (go_at_call 13;refine (jA _ _ _ (a*p) ch asz hu7 asv.out asw.out _ rfl).mono ?_;rintro e w8 ⟨u8,rfl,hu8,dL⟩;obtain ⟨A8,l8,c8,rfl⟩:=U.sl hu8))
       go_roundw
       case rel=>exact ⟨i+j,a*p+ch,x2,S2,rfl,HSd,ahB.out,asx,hu8,hHR,((ahv.ext bu).ext cB).ext dL,((bE.below bu).below cB).below dL⟩
       case measure =>
        show S2.size<S.size
        rw [hsz,ahB.out]
        exact asy.out
end Go.Proofs.YtfhcmggpojhegaaGreatDoor
/- The digits of a natural: the program's Text. -/
namespace Go.Proofs.YtfhcmggpojhegaaGreatDoor
open Go.RowKit
set_option linter.unusedVariables false
set_option maxHeartbeats 400000
theorem Y5 (b n a:Nat):∀ m,a<kp b n m→∃ I,I≤m∧a<kp b n I∧∀ j,j<I→kp b n j≤a:=by
 intro m
 induction m with
 | zero=>intro h;exact ⟨0,Nat.le_refl _,h,fun j hj=>by omega⟩
 | succ m ih =>
  intro h
  rcases Nat.lt_or_ge a (kp b n m) with h1 | h1
  · obtain ⟨I,h2,h3⟩:=ih h1
    exact ⟨I,by omega,h3⟩
  · by_cases h2:∃ j,j<m+1∧a<kp b n j
    · obtain ⟨j,hj,hj2⟩:=h2
      have hjm:j<m:=by
       rcases Nat.lt_or_ge j m with h | h
       · exact h
       · obtain rfl:j=m:=by omega
         omega
      have hmono:∀ d,kp b n j≤kp b n (j+d):=by
       intro d
       induction d with
       | zero=>exact Nat.le_refl _
       | succ d ihd =>
        rw [show j+(d+1)=(j+d)+1 by omega,KI]
        rcases Nat.eq_zero_or_pos (kp b n (j+d)) with h0 | h0
        · rw [h0] at ihd ⊢;omega
        · exact Nat.le_trans ihd (Nat.le_mul_of_pos_left _ h0)
      have:=hmono (m-j)
      rw [show j+(m-j)=m by omega] at this
      omega
    · refine ⟨m+1,Nat.le_refl _,h,fun j hj=>?_⟩
      rcases Nat.lt_or_ge a (kp b n j) with h3 | h3
      · exact absurd ⟨j,hj,h3⟩ h2
      · exact h3
theorem Y6 (b n a:Nat) (hb:2≤b) (hn:1≤n) (hl:(limbs a).length≤398):∃ I,I≤10∧a<kp b n I∧∀ j,j<I→kp b n j≤a:=by
 refine Y5 b n a 10 ?_
 have h1:a<4294967296^(limbs a).length:=dX (Nat.le_refl _)
 generalize (limbs a).length=L at *
 have e0:(4294967296:Nat)=2^32:=rfl
 rw [e0,← Nat.pow_mul] at h1
 unfold kp
 obtain ⟨E,hE⟩:∃ E,16*n*2^10=E:=⟨_,rfl⟩
 have hE2:32*L≤E:=by
  have:(2:Nat)^10=1024:=rfl
  rw [this] at hE
  omega
 rw [hE]
 have h2:2^(32*L)≤2^E:=Nat.pow_le_pow_right (by decide) hE2
 have h3:2^E≤b^E:=Nat.pow_le_pow_left hb E
 omega
theorem TZ:(Tryz.prog.info? 5).map (fun i=>(i.zero,i.size,i.bytes))=some (some (.int .u8 0),1,1):=by kernel_rfl
theorem Lr:∃ i0:TypeInfo,Tryz.prog.info? 5 = some i0∧i0.zero=some (.int .u8 0)∧i0.size=1∧i0.bytes=1:=by
 cases h:Tryz.prog.info? 5 with
 | none =>
  have:=TZ
  rw [h] at this
  cases this
 | some i0 =>
  have:=TZ
  rw [h] at this
  simp only [Option.map_some,Option.some.injEq,Prod.mk.injEq] at this
  exact ⟨i0,rfl,this.1,this.2.1,this.2.2⟩
theorem By.made {w1:World} {base g n:Nat} (h:w1.ownsRow base 5 1 (.slice (some ⟨g,0,none⟩) n n) n (madeCells (Value.int .u8 0).cells (n*1)).toList):By 5 w1 g (List.replicate n 0):=by
 have hm:(madeCells (Value.int .u8 0).cells (n*1)).toList=List.replicate n (Value.int .u8 0):=by
  rw [Nat.mul_one];exact toList_madeCells_one _ _
 rw [hm] at h
 rcases h.2 with ⟨e,_⟩ | ⟨g2,cap,cur,e,hbg,hg,hnc,hcm,hcs,htake⟩
 · cases e
 · injection e with e1 e2 e3
   injection e1 with e1
   injection e1 with e1
   subst e1
   subst e3
   have Y7:cur=(Bv (List.replicate n 0)).toArray:=by
    apply Array.toList_inj.1
    have:cur.toList.take (n*1)=cur.toList:=List.take_of_length_le (by rw [Array.length_toList];omega)
    rw [← this,htake]
    simp [Bv]
   unfold By
   rw [hg,Y7]
theorem adR (w:World) (g len cap:Nat) (ds:List Nat) (hd:∀ d∈ds,d<36) (hl:ds.length=len) (h:By 5 w g (ds.map jg)) :
  (convert 143 9 (.slice (some ⟨g,0,none⟩) len cap)).run Tryz.prog w = .ok (.string (gD ds)) w:=by
 have:=run_convert_bytes_back (P:=Tryz.prog) w 143 9 5 ⟨g,0,none⟩ cap (lM ds) Tryz.underlying143 Tryz.underlying5 Tryz.underlying9 (fun j hj=>by
  have hj2:j<ds.length:=by rwa [sD] at hj
  rw [lQ,h.cell (j:=j) (by rw [List.length_map];exact hj2)]
  have e1:((lM ds)[j]'hj).toNat=jg (ds[j]'hj2):=by
   simp only [lM,List.getElem_map]
   exact Fp (hd _ (List.getElem_mem hj2))
  rw [e1]
  congr 2
  unfold lb
  simp [hj2])
 rw [sD,hl] at this
 exact this
end Go.Proofs.YtfhcmggpojhegaaGreatDoor
/- The digits of a natural: the program's Text, walked. -/
namespace Go.Proofs.YtfhcmggpojhegaaGreatDoor
open Go.RowKit
set_option linter.unusedVariables false
set_option maxHeartbeats 400000
theorem Y8 (b a:Nat) (h2:2≤b):∃ bb,(gD (nd b a)).toList.isEmpty=bb∧(bb=true∧gD (dt b a)=⟨#[48]⟩∨bb=false∧gD (dt b a)=gD (nd b a)):=by
 by_cases ha0:a=0
 · subst ha0
   exact ⟨true,by rw [wZ,ByteArray.toList_eq];rfl,.inl ⟨rfl,by rw [KJ];rfl⟩⟩
 · refine ⟨false,?_,.inr ⟨rfl,by rw [PK ha0]⟩⟩
   rw [ByteArray.toList_eq,Cg]
   have:=Te ha0 h2
   cases e:nd b a with
   | nil=>exact absurd e this
   | cons x xs=>rfl
set_option maxRecDepth 100000 in
set_option maxHeartbeats 4000000 in
theorem FL (w:World) (va:Value) (a b:Nat) (hu:Un w va a) (hal:(limbs a).length≤398) (h2:2≤b) (Tf:b≤36) :
   Calls Tryz.prog 41 #[va,.int .i64 (b:Nat)] w fun e w'=>e = .returned (.tuple #[.string (gD (dt b a)),.int .i64 0])∧Ext w w':=by
 obtain ⟨A,l,c,rfl⟩:=U.sl hu
 have hmf:∀ (fn:Fn) (first cap:Array Value) (w:World),(Instr.makeFunc fn first cap).run Tryz.prog w = .ok (.func fn first cap) w:=fun _ _ _ _=>rfl
 have hb2:¬ (b<2):=by omega
 have YU:¬ (36<b):=by omega
 have asA:¬ ((b:Int)<2):=by omega
 have amG:¬ ((b:Int)>36):=by omega
 go_enter Tryz.func41,Tryz.ntmps41
 go_upto_region 7 with (first
  | (go_at_call 97;refine (ym _ b h2 Tf).mono ?_;rintro e w3 ⟨⟨n,p,hS,rfl⟩,bJ⟩)
  | (go_at_call 98;refine (yu _ w.heap.size b n p hS (by have:=bJ.size;simp;omega)).mono ?_;rintro e w4 ⟨⟨Bk,rfl,hKp,hBk⟩,bX⟩))
 have Y9:=bX.size
 have hs3:w3.heap.size<w4.heap.size:=by simp at Y9;omega
 have bE:Ext w4 ((w4.alloc (.cells #[Pn Bk] 137)).alloc (.cells #[Sfn w3.heap.size w4.heap.size (w4.heap.size+1)] 142)):=((Ext.refl w4).alloc _).alloc _
 have Za:=(DY.new w3 b n p |>.ext bX).ext bE
 have ahE:Fb ((w4.alloc (.cells #[Pn Bk] 137)).alloc (.cells #[Sfn w3.heap.size w4.heap.size (w4.heap.size+1)] 142)) w4.heap.size (Pn Bk):=⟨by simp;omega,by go_simp⟩
 have amH:Fb ((w4.alloc (.cells #[Pn Bk] 137)).alloc (.cells #[Sfn w3.heap.size w4.heap.size (w4.heap.size+1)] 142)) (w4.heap.size+1) (Sfn w3.heap.size w4.heap.size (w4.heap.size+1)):=⟨by simp,by go_simp⟩
 have QC:=hKp.ext bE
 have QD:Ext w ((w4.alloc (.cells #[Pn Bk] 137)).alloc (.cells #[Sfn w3.heap.size w4.heap.size (w4.heap.size+1)] 142)):=((bJ.alloc _).below bX).below bE
 have NK:Un _ (.slice A l c) a:=hu.below QD
 unfold Pn Sfn at *
 generalize ((w4.alloc (.cells #[.func (.func 150) #[] #[.pointer (some ⟨Bk,0,none⟩)]] 137)).alloc (.cells #[.func (.func 103) #[] #[.pointer (some ⟨w3.heap.size,0,none⟩),.pointer (some ⟨w4.heap.size,0,none⟩),.pointer (some ⟨w4.heap.size+1,0,none⟩)]] 142))=w5 at *
 have dJ:w.heap.size≤w5.heap.size:=QD.size
 generalize w3.heap.size=S at *
 generalize w4.heap.size=Pb at *
 generalize Pb+1=Sb at *
 obtain ⟨I,asC,haI,hlI⟩:=Y6 b n a h2 hS.n1 hal
 have hAB:=Lib.hid (NH w5 w.heap.size b n Bk 1 a I _ NK QC dJ (by omega) haI hlI hal)
 have asD:=ahE.2
 clear hKp bE bX bJ Y9 hs3 hBk
 go_upto_region 8 with (go_at_call 105;refine hAB.out.mono ?_;rintro e w6 ⟨rfl,⟨K,hIK,_,asE⟩,VP⟩)
 have bu:Ext w w6:=Below.trans QD VP.below
 have amI:=Za.JP VP
 have asF:=ahE.JP VP (by rintro ⟨_,_,_,e⟩;cases e)
 have asG:=amH.JP VP (by rintro ⟨_,_,_,e⟩;cases e)
 have hu6:=Un.JP NK VP
 obtain ⟨s0,s1,s2,s3⟩:=id amI
 obtain ⟨T,hT⟩:∃ T,2^I=T:=⟨_,rfl⟩
 have hT1:T≤1024∧1≤T:=by rw [← hT];exact ⟨Nat.pow_le_pow_right (by decide) asC,Nat.two_pow_pos I⟩
 obtain ⟨len,hlen⟩:∃ len,16*n*T=len:=⟨_,rfl⟩
 have Zb:len≤16*31*1024:=by rw [← hlen];exact Nat.mul_le_mul (Nat.mul_le_mul_left _ hS.n32) hT1.1
 clear hAB asD Za ahE amH NK QC QD VP
 have o0:(16:Int)*(n:Int)*2^I=(len:Int):=by
  rw [← hlen,← hT];simp
 have o1:IntKind.i64.wrap ((16:Int)*(n:Int)*2^I)=(len:Int):=by rw [o0,IntKind.wrap_i64];omega
 have o2:IntKind.i64.wrap (len:Int)=(len:Int):=by rw [IntKind.wrap_i64];omega
 have hlen1:1≤len:=by rw [← hlen];have:=hS.n1;exact Nat.mul_pos (by omega) hT1.2
 obtain ⟨i0,hi,hz0,hz1,hz2⟩:=Lr
 have HT:=Lib.hid hT
 have HLEN:=Lib.hid hlen
 have F5:Hid (∀ d∈fP b a len,d<36):=fun d hd=>Nat.lt_of_lt_of_le (Td b _ _ (by omega) d hd) Tf
 have hst:gQ (fP b a len)=nd b a:=ow b h2 len a (by have:=haI;unfold kp at this;rw [hT,hlen] at this;exact this)
 have afL:=Lib.hid (fun W=>FZ W (fP b a len) F5.out)
 rw [hst] at afL
 obtain ⟨bb,hie,hfin⟩:=Y8 b a h2
 clear hT hlen hT1
 generalize gD (nd b a)=T1 at *
 rcases hfin with ⟨rfl,hf⟩ | ⟨rfl,hf⟩
 all_goals (
  have HF:=Lib.hid hf
  clear hf
  go_wp2_with (first
   | (go_at_call 100;refine (vP _ b n p hS).mono ?_;rintro e w7 ⟨rfl,cB⟩;have ahF:=bu.below cB;have hg7:=ahF.size)
   | (at_make;refine wpList_make_full _ rfl _ _ 143 rfl w7.heap.size 5 i0 (.int .u8 0) 1 Tryz.underlying143 hi hz0 hz1 _ _ _ _ len rfl rfl (by omega) (by omega) (by rw [hz2];omega) (by unfold maxLen;omega) (by simp) ?_;intro w8 hown hgrow;have dL:Ext w7 w8:=(Ext.refl w7).grown hgrow (Nat.le_refl _) (fun _ h=>by cases h);have amK:=By.made hown;have VQ:=cB.below dL;have ahG:=asG.ext VQ;have azN:=ahG.2;have hL8:Xd w.heap.size b n p w8 S Pb Sb Bk K:=⟨amI.ext VQ,asF.ext VQ,ahG,asE.ext VQ⟩;have hu8:=Un.below hu6 VQ;have amL:=ahF.below dL;have afM:By 5 w8 w7.heap.size ([]++(List.replicate len 0++[])):=(by { simpa using amK });have hSP:=Lib.hid (NI w.heap.size b n p S Pb Sb Bk K w7.heap.size len hS (by omega) I hIK (by omega) (fun j hj=>Y1 (hlI j hj) hal) w8 0 len len [] (List.replicate len 0) [] afM rfl (by simp) (by rw [HT.out];exact HLEN.out) (Nat.le_refl _) (Nat.le_refl _) (by omega) (.slice A l c) a hu8 (by omega) haI hL8 amL.size);clear hown hgrow dL amK afM VQ hL8 hu8 ahG ahF cB)
   | (go_at_call 103;refine hSP.out.mono ?_;rintro e w9 ⟨rfl,amM,afN⟩;have fu:=amL.but afN hg7;have hcv:=adR w9 w7.heap.size len len (fP b a len) F5.out (iZ _ _ _) (by { simpa using amM });have hTR:=afL.out w9;generalize gD (fP b a len)=T0 at *;clear amM afN)
   | (go_at_call 102;refine hTR.mono ?_;rintro e uY ⟨rfl,cZ⟩))
  go_ret2
  exact ⟨by rw [HF.out];first | done | rfl,fu.below cZ⟩)
end Go.Proofs.YtfhcmggpojhegaaGreatDoor
/- Digits are read: two halves are joined. -/
namespace Go.Proofs.YtfhcmggpojhegaaGreatDoor
open Go.RowKit
set_option linter.unusedVariables false
set_option maxHeartbeats 400000
abbrev Jfn (S Jb Pb:Nat):Value:=.func (.func 99) #[] #[.pointer (some ⟨S,0,none⟩),.pointer (some ⟨Jb,0,none⟩),.pointer (some ⟨Pb,0,none⟩)]
def Jx (S Jb Pb Bk:Nat) (w:World):Prop:=(Jb<w.heap.size∧w.cell? ⟨Jb,0,none⟩=some (Jfn S Jb Pb))∧(Pb<w.heap.size∧w.cell? ⟨Pb,0,none⟩=some (Pn Bk))
theorem Jx.JP {B S Jb Pb Bk:Nat} {w w':World} (h:Jx S Jb Pb Bk w) (k:tT B w w'):Jx S Jb Pb Bk w' :=
 ⟨Fb.JP (f:=Jfn S Jb Pb) h.1 k (by rintro ⟨_,_,_,e⟩;cases e),Fb.JP (f:=Pn Bk) h.2 k (by rintro ⟨_,_,_,e⟩;cases e)⟩
theorem Jx.ext {S Jb Pb Bk:Nat} {w w':World} (h:Jx S Jb Pb Bk w) (k:Ext w w'):Jx S Jb Pb Bk w':=⟨Fb.ext h.1 k,Fb.ext h.2 k⟩
theorem QE {b x k M:Nat} (hb:2≤b) (hx:x<b^k) (hk:k≤M) (hl:(limbs (b^M)).length≤398):(limbs x).length≤398:=by
 have h1:b^k≤b^M:=Nat.pow_le_pow_right (by omega) hk
 exact Nat.le_trans (eZ (by omega)) hl
theorem T9 {b n i M:Nat} (hb:2≤b) (h:16*n*2^i≤M) (hl:(limbs (b^M)).length≤398):(limbs (kp b n i)).length≤398:=by
 unfold kp
 exact Nat.le_trans (eZ (Nat.pow_le_pow_right (by omega) h)) hl
theorem amN {n i x:Nat} (hn:1≤n) (h:16*n*2^i=x) (hx:x<20000):i≤11:=by
 rcases Nat.lt_or_ge i 12 with h1 | h1
 · omega
 · exfalso
   have h2:2^12≤2^i:=Nat.pow_le_pow_right (by decide) h1
   have h3:16*1*2^12≤16*n*2^i:=Nat.mul_le_mul (Nat.mul_le_mul_left 16 hn) h2
   have h4:(2:Nat)^12=4096:=rfl
   omega
theorem ahH {n i j:Nat} (h:j≤i):16*n*2^j≤16*n*2^i:=Nat.mul_le_mul_left _ (Nat.pow_le_pow_right (by decide) h)
theorem afO {B S Jb Pb Bk:Nat} {w w':World} (h:(Jb<w.heap.size∧w.cell? ⟨Jb,0,none⟩=some (.func (.func 99) #[] #[.pointer (some ⟨S,0,none⟩),.pointer (some ⟨Jb,0,none⟩),.pointer (some ⟨Pb,0,none⟩)]))∧(Pb<w.heap.size∧w.cell? ⟨Pb,0,none⟩=some (.func (.func 150) #[] #[.pointer (some ⟨Bk,0,none⟩)]))) (k:tT B w w') :
 (Jb<w'.heap.size∧w'.cell? ⟨Jb,0,none⟩=some (.func (.func 99) #[] #[.pointer (some ⟨S,0,none⟩),.pointer (some ⟨Jb,0,none⟩),.pointer (some ⟨Pb,0,none⟩)]))∧(Pb<w'.heap.size∧w'.cell? ⟨Pb,0,none⟩=some (.func (.func 150) #[] #[.pointer (some ⟨Bk,0,none⟩)])):=Jx.JP (S:=S) (Bk:=Bk) h k
theorem Zc {S Jb Pb Bk:Nat} {w w':World} (h:(Jb<w.heap.size∧w.cell? ⟨Jb,0,none⟩=some (.func (.func 99) #[] #[.pointer (some ⟨S,0,none⟩),.pointer (some ⟨Jb,0,none⟩),.pointer (some ⟨Pb,0,none⟩)]))∧(Pb<w.heap.size∧w.cell? ⟨Pb,0,none⟩=some (.func (.func 150) #[] #[.pointer (some ⟨Bk,0,none⟩)]))) (k:Ext w w') :
 (Jb<w'.heap.size∧w'.cell? ⟨Jb,0,none⟩=some (.func (.func 99) #[] #[.pointer (some ⟨S,0,none⟩),.pointer (some ⟨Jb,0,none⟩),.pointer (some ⟨Pb,0,none⟩)]))∧(Pb<w'.heap.size∧w'.cell? ⟨Pb,0,none⟩=some (.func (.func 150) #[] #[.pointer (some ⟨Bk,0,none⟩)])):=Jx.ext (S:=S) (Bk:=Bk) h k
set_option maxRecDepth 100000 in
set_option maxHeartbeats 4000000 in
theorem NL (B b n p S Jb Pb Bk M:Nat) (hS:Sc b n p) (hM:(limbs (b^M)).length≤398) (hM2:M≤19000):∀ (L:Nat),L≤M→∀ (w:World) (ds:List Nat) (K:Nat),ds.length=L→(∀ d∈ds,d<b)→DY w S b n p→Jx S Jb Pb Bk w→Lp B b n w Bk K→B≤w.heap.size →
  Calls Tryz.prog 99 #[.string (gD ds),.pointer (some ⟨S,0,none⟩),.pointer (some ⟨Jb,0,none⟩),.pointer (some ⟨Pb,0,none⟩)] w fun e w'=>(∃ u,e = .returned u∧Un w' u (fF b ds))∧(∃ K',Lp B b n w' Bk K')∧tT B w w':=by
 intro L
 induction L using Nat.strongRecOn with
 | _ L ih =>
 intro hLM w ds K hL hd D5 hJ hKp hB
 have hb2:=hS.b2
 have YU:=hS.b36
 have hn1:=hS.n1
 have ahu:=hS.n32
 have hsz:=mM ds
 rw [hL] at hsz
 obtain ⟨s0,s1,s2,s3⟩:=id D5
 by_cases hsm:L≤16*n
 · have hR:=Lib.hid (fun W=>NJ W b n p hS ds hd (by omega))
   generalize gD ds=T at *
   have hcmp:((L:Int)≤16*(n:Int)):=by omega
   have HK:=Lib.hid hKp
   clear ih hd hL hKp
   go_enter Tryz.func99,Tryz.ntmps99
   go_wp2_with (first
    | (go_at_call 100;refine (vP _ b n p hS).mono ?_;rintro e w3 ⟨rfl,bJ⟩;obtain ⟨q0,q1,q2,q3⟩:=D5.ext bJ)
    | (go_at_call 101;refine (hR.out _).mono ?_;rintro e w4 ⟨u,rfl,BV,bX⟩;obtain ⟨A4,l4,c4,rfl⟩:=U.sl BV))
   go_ret
   exact ⟨⟨_,rfl,BV⟩,⟨K,(HK.out.ext bJ).ext bX⟩,tT.JO hB (bJ.below bX)⟩
 · have HJ0:=Lib.hid hJ
   have HK:=Lib.hid hKp
   have HD:=Lib.hid hd
   have hL2:L≤19000:=by omega
   have HIH:=Lib.hid ih
   have hcmp:¬ ((L:Int)≤16*(n:Int)):=by omega
   have HL:=Lib.hid hL
   have htk:=fun k=>Cy ds k
   have hdr:=fun k=>JR ds k
   rw [mM,hL] at hdr
   have SS:=Lib.hid htk
   have HDR:=Lib.hid hdr
   generalize hTT:gD ds=T at *
   have HTT:=Lib.hid hTT
   clear ih hd hKp hJ hL htk hdr hTT
   go_enter Tryz.func99,Tryz.ntmps99
   go_wp2_with (first
    | (go_at_call 100;refine (vP _ b n p hS).mono ?_;rintro e w3 ⟨rfl,bJ⟩;first | (have QF:Ext w w3:=bJ;obtain ⟨q0,q1,q2,q3⟩:=D5.ext QF) | (have hE0:=QF.below bJ;clear bJ QF q0 q1 q2 q3)))
   have amO:16*n*2^0=16*n:=by rw [Nat.pow_zero,Nat.mul_one]
   have hi0:=Lib.hid amO
   have afP:16*n<L:=by omega
   clear amO hcmp s0 s1 s2 s3 ahu
   go_loopw [6,7] (fun t s wr=>∃ i lw:Nat,t = .int .i64 (i:Nat)∧s = .int .i64 (lw:Nat)∧Hid (16*n*2^i=lw)∧lw<L∧wr=w3) (fun _ s _=>L-(intOf s).toNat)
   case atStart=>exact ⟨0,16*n,rfl,by go_num,hi0,afP,rfl⟩
   case round =>
    clear hi0 afP
    obtain ⟨i,lw,rfl,rfl,hi,hlw,rfl⟩:=hrel
    have azP:=amN hn1 hi.out (by omega)
    have azQ:1≤lw:=by rw [← hi.out];exact Nat.mul_pos (by omega) (Nat.two_pow_pos i)
    by_cases hgo:2*lw<L
    · have hi2:Hid (16*n*2^(i+1)=2*lw):=by show _=_;rw [Nat.pow_succ,← Nat.mul_assoc,hi.out,Nat.mul_comm]
      have o1:(2:Int)*(lw:Int)<(L:Int):=by omega
      have o3:IntKind.i64.wrap ((2:Int)*(lw:Int))=(2:Int)*(lw:Int):=by rw [IntKind.wrap_i64];omega
      clear hi
      go_wp2
      go_roundw
      case rel=>exact ⟨i+1,2*lw,by go_num,by go_num,hi2,hgo,by trivial⟩
      case measure=>simp [intOf];omega
    · obtain ⟨cut,hcut⟩:∃ cut,L-lw=cut:=⟨_,rfl⟩
      have ru:L=cut+lw:=by omega
      have hdl:=HL.out
      obtain ⟨T1,hT1⟩:∃ T1,gD (ds.take cut)=T1:=⟨_,rfl⟩
      obtain ⟨T2,xP⟩:∃ T2,gD (ds.drop cut)=T2:=⟨_,rfl⟩
      have ht1:T.extract 0 cut=T1:=(SS.out cut).trans hT1
      have ht2:T.extract cut L=T2:=(HDR.out cut).trans xP
      have QG:Ext w wr.drew:=hE0.drew
      have hJ0:Jx S Jb Pb Bk wr.drew:=HJ0.out.ext QG
      have ahI:=D5.ext QG
      have amP:=HK.out.ext QG
      have hB0:B≤wr.drew.heap.size:=Nat.le_trans hB QG.size
      have ahJ:(ds.take cut).length=cut:=by rw [List.length_take];omega
      have ahK:(ds.drop cut).length=lw:=by rw [List.length_drop];omega
      have hd1:∀ d∈ds.take cut,d<b:=fun d h=>HD.out d (List.mem_of_mem_take h)
      have hd2:Hid (∀ d∈ds.drop cut,d<b):=fun d h=>HD.out d (List.mem_of_mem_drop h)
      have hv1:=wY b _ hd1
      have hv2:=wY b _ hd2.out
      rw [ahJ] at hv1
      rw [ahK] at hv2
      have hl1:=Lib.hid (QE hb2 hv1 (show cut≤M by omega) hM)
      have hl4:=Lib.hid (Nat.le_trans (QE hb2 hv2 (show lw≤M by omega) hM) (show 398≤1000000000 by omega))
      have hl2:=Lib.hid (T9 (n:=n) (i:=i) hb2 (show 16*n*2^i≤M by rw [hi.out];omega) hM)
      have hlim:Hid (∀ j,j<i→(limbs (kp b n j)).length≤398):=fun j hj=>T9 hb2 (Nat.le_trans (ahH (Nat.le_of_lt hj)) (show 16*n*2^i≤M by rw [hi.out];omega)) hM
      have hval:fF b (ds.take cut)*kp b n i+fF b (ds.drop cut)=fF b ds:=by
       have h:=YV b ds cut (by omega)
       rw [show ds.length-cut=lw by omega] at h
       unfold kp
       rw [hi.out]
       exact h.symm
      have afQ:(limbs (fF b ds)).length≤398:=QE hb2 (wY b ds HD.out) (show ds.length≤M by omega) hM
      have hl3:Hid ((limbs (fF b (ds.take cut)*kp b n i)).length≤1000000000):=Nat.le_trans (eZ (show fF b (ds.take cut)*kp b n i≤fF b ds by omega)) (Nat.le_trans afQ (by omega))
      have ahL:=Lib.hid hval
      have HC1:=Lib.hid (HIH.out cut (by omega) (by omega) wr.drew (ds.take cut) K ahJ hd1 ahI hJ0 amP hB0)
      have amQ:=Lib.hid (fun W K' h1 h2 h3 h4=>HIH.out lw hlw (by omega) W (ds.drop cut) K' ahK hd2.out h1 h2 h3 h4)
      rw [hT1] at HC1
      rw [xP] at amQ
      generalize fF b (ds.take cut)=va at *
      generalize fF b (ds.drop cut)=vb at *
      have hS0:(Jb<wr.drew.heap.size∧wr.drew.cell? ⟨Jb,0,none⟩=some (.func (.func 99) #[] #[.pointer (some ⟨S,0,none⟩),.pointer (some ⟨Jb,0,none⟩),.pointer (some ⟨Pb,0,none⟩)]))∧(Pb<wr.drew.heap.size∧wr.drew.cell? ⟨Pb,0,none⟩=some (.func (.func 150) #[] #[.pointer (some ⟨Bk,0,none⟩)])):=hJ0
      have o1:¬ ((2:Int)*(lw:Int)<(L:Int)):=by omega
      have o3:IntKind.i64.wrap ((2:Int)*(lw:Int))=(2:Int)*(lw:Int):=by rw [IntKind.wrap_i64];omega
      have o4:(L:Int)-(lw:Int)=(cut:Int):=by omega
      have o5:IntKind.i64.wrap (cut:Int)=(cut:Int):=by rw [IntKind.wrap_i64];omega
      have o6:(0:Int)≤(cut:Int):=by omega
      have o7:(cut:Int)≤(L:Int):=by omega
      have hK0:=Lib.hid (tT.JO hB QG)
      have awP:=Lib.hid ahI
      have hi9:i<900:=by omega
      clear hcut ru hdl hT1 xP QG hJ0 ahI amP ahJ ahK hd1 hd2 hv1 hv2 hval afQ hi hgo HIH SS HDR hE0
      go_wp2_with (fail)
      go_region_held3 (fun X=>(Jb<X.heap.size∧X.cell? ⟨Jb,0,none⟩=some (.func (.func 99) #[] #[.pointer (some ⟨S,0,none⟩),.pointer (some ⟨Jb,0,none⟩),.pointer (some ⟨Pb,0,none⟩)]))∧(Pb<X.heap.size∧X.cell? ⟨Pb,0,none⟩=some (.func (.func 150) #[] #[.pointer (some ⟨Bk,0,none⟩)])))
       (first
        | exact hS0
        | assumption
        | exact afO (by assumption) (by assumption)
        | exact Zc (by assumption) (by assumption))
       (first
        | (go_at_call 99;((with_reducible refine HC1.out.mono ?_);rintro e4 w4 ⟨⟨u4,rfl,BV⟩,⟨K4,Y3⟩,NG⟩;obtain ⟨A4,l4,c4,rfl⟩:=U.sl BV;have hP:=Lib.hid (vQ w4 B b n Bk K4 i Y3 (Nat.le_trans hB0 NG.size) hi9 hlim.out)))
        | (go_at_call 150;((with_reducible refine hP.out.mono ?_);rintro e5 w5 ⟨⟨u5,rfl,NK⟩,⟨K5,hx1,hx2,QC⟩,amR,hx3⟩;obtain ⟨A5,l5,c5,rfl⟩:=U.sl NK;have hMu:=Lib.hid (mulN w5 _ _ _ _ _ (Un.JP BV amR) NK hl1.out hl2.out rfl);have hK5:=Lib.hid ((hK0.out.trans NG).trans amR);clear hx3))
        | (go_at_call 17;((with_reducible refine hMu.out.mono ?_);rintro e6 w6 ⟨u6,rfl,hu6,bu⟩;obtain ⟨A6,l6,c6,rfl⟩:=U.sl hu6;have hK6:=Lib.hid (hK5.out.ext hB bu);have HC2:=Lib.hid (amQ.out w6 K5 (D5.JP hK6.out) (HJ0.out.JP hK6.out) (QC.ext bu) (Nat.le_trans hB hK6.out.size))))
        | (go_at_call 99;((with_reducible refine HC2.out.mono ?_);rintro e7 w7 ⟨⟨u7,rfl,hu7⟩,⟨K7,amS⟩,adS⟩;obtain ⟨A7,l7,c7,rfl⟩:=U.sl hu7;have hAd:=Lib.hid (jA w7 _ _ _ _ (Un.JP hu6 adS) hu7 hl3.out hl4.out _ rfl);have hK7:=Lib.hid (hK6.out.trans adS)))
        | (go_at_call 13;((with_reducible refine hAd.out.mono ?_);rintro e8 w8 ⟨u8,rfl,hu8,dL⟩;obtain ⟨A8,l8,c8,rfl⟩:=U.sl hu8)))
      rw [ahL.out] at hu8
      have HU:=Lib.hid hu8
      clear hu8
      (try go_wp2)
      go_ret
      exact ⟨⟨_,rfl,HU.out⟩,⟨K7,amS.ext dL⟩,hK7.out.ext hB dL⟩
end Go.Proofs.YtfhcmggpojhegaaGreatDoor
