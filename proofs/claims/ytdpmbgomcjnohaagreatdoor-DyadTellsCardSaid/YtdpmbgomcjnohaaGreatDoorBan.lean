/- Numbers and their lengths, for the statements. -/
import Derived.Test.YtdpmbgomcjnohaaGreatDoorBae
import Derived.Test.YtdpmbgomcjnohaaGreatDoorBag
import Derived.Test.YtdpmbgomcjnohaaGreatDoorBal
import Derived.Laws.Bits64
import Derived.Deep.RegionHeld3
import Derived.Deep.Cut

namespace Go.Proofs.YtdpmbgomcjnohaaGreatDoor
theorem LV {n m a b:Nat} (h1:(limbs n).length≤a) (h2:(limbs m).length≤b):(limbs (n+m)).length≤max a b+1:=by
 apply je
 have g1:=Nat.lt_of_lt_of_le (cO h1) (Nat.pow_le_pow_right (show 0<4294967296 by decide) (Nat.le_max_left a b))
 have g2:=Nat.lt_of_lt_of_le (cO h2) (Nat.pow_le_pow_right (show 0<4294967296 by decide) (Nat.le_max_right a b))
 rw [Nat.pow_succ]
 omega
theorem SK {n k:Nat} (h:(limbs n).length≤k):fK n≤32*k:=by
 apply fB
 rw [← mE]
 exact cO h
end Go.Proofs.YtdpmbgomcjnohaaGreatDoor
/- Shifts and bits of numbers, for the statements. -/
namespace Go.Proofs.YtdpmbgomcjnohaaGreatDoor
theorem DY (n a k c:Nat) (h:(limbs n).length≤a) (hk:k≤32*c):(limbs (n*2^k)).length≤a+c:=by
 apply je
 have h1:=cO h
 have h2:2^k≤4294967296^c:=by rw [mE];exact Nat.pow_le_pow_right (by decide) hk
 rw [Nat.pow_add]
 exact Nat.lt_of_lt_of_le (Nat.mul_lt_mul_of_pos_right h1 (Nat.two_pow_pos k)) (Nat.mul_le_mul_left _ h2)
theorem O4 (n i:Nat):pG n (i:Int)=n/2^i%2:=by
 unfold pG
 rw [if_neg (by omega),Int.toNat_natCast]
theorem y9 (n:Nat):fK n≤32*(limbs n).length:=SK (Nat.le_refl _)
end Go.Proofs.YtdpmbgomcjnohaaGreatDoor
/- Noughts appended to a row of words. -/
namespace Go.Proofs.YtdpmbgomcjnohaaGreatDoor
open Go.RowKit
set_option linter.unusedVariables false
set_option maxHeartbeats 400000
theorem DT (o:List Nat) (m:Nat):aU (o++List.replicate m 0)=aU o:=by rw [jd,kL,Nat.mul_zero,Nat.add_zero]
theorem uS (m:Nat):Builtin.zeroCells #[Value.int .u64 0] m=(mY (List.replicate m 0)).toArray:=by
 apply Array.ext'
 unfold Builtin.zeroCells
 rw [EA]
 simp
 apply List.ext_getElem
 · simp
 · intro i h1 h2
   simp at h1 ⊢
   rw [Nat.mod_one];rfl
theorem F8 (w:World) (base g n c m:Nat) (o:List Nat) (hown:Ow w base (.slice (some ⟨g,0,none⟩) n c) o) (h:n+m≤1000000) (hb:base≤w.heap.size) :
  ∃ g' c' w',(Builtin.append_ #[139,3] 139 #[.slice (some ⟨g,0,none⟩) n c,.int .i64 (m:Nat)]).run Tryz.prog w = .ok (.slice (some ⟨g',0,none⟩) (n+m) c') w' ∧
   Ow w' base (.slice (some ⟨g',0,none⟩) (n+m) c') (o++List.replicate m 0)∧(g'=g∨g'=w.heap.size)∧w.grownBy w' (some g):=by
 have aaA:=hown.caps
 have hgb:=hown.block
 obtain ⟨i0,hi,hz0,hz1,hz2⟩:=info_parts rO
 have hk:Tryz.prog.underlying 3 = some (.int .i64):=by kernel_rfl
 have hh0:w.ownsRow base 100 1 (.slice (some ⟨g,0,none⟩) n c) o.length (mY o):=hown
 have hmw:IntKind.i64.wrap (m:Int)=(m:Int):=IntWalk.i64_in _ (by omega)
 have hneg:¬ ((m:Int)<0):=by omega
 have hmb:¬ (281474976710656<(m:Int)*8):=by omega
 have hzc:(Value.int .u64 0).cells=#[Value.int .u64 0]:=rfl
 have ha:∀ (k:Int) W,Sem.run Tryz.prog (asInt (Value.int IntKind.i64 k)) W=Result.ok k W:=fun _ _=>rfl
 have hw0:IntKind.i64.wrap 0=0:=by decide
 rcases hh0.2 with ⟨h1,_⟩ | ⟨g',cap,cur,h1,hg,hh,h2,h3,h4,h5⟩
 · cases h1
 · injection h1 with e1 e2 e3
   injection e1 with e1
   injection e1 with e1
   subst e1 e3
   rw [← e2] at h2 h5
   by_cases hroom:n+m≤c
   · have hst:=run_storeCells_at Tryz.prog g n 100 (mY (List.replicate m 0)) 0 cur w hh (by rw [dJ,List.length_replicate];omega) (by intro u hu;obtain ⟨z,_,rfl⟩:=List.mem_map.1 hu;rfl)
     simp only [Nat.add_zero] at hst
     have hz1':∀ mm,¬ mm=0→(Builtin.zeroCells #[Value.int .u64 0] mm).toList=mY (List.replicate mm 0):=fun mm _=>by rw [uS]
     refine ⟨g,c,w.setRow g (cur.toList.take n++mY (List.replicate m 0)++cur.toList.drop (n+(mY (List.replicate m 0)).length)).toArray,?_,?_,.inl rfl,⟨rfl,rfl,rfl,by simp [World.setRow],fun k _ hk=>setRow_other w g k _ (fun e=>hk (by rw [e]))⟩⟩
     · rcases Nat.eq_zero_or_pos m with h0 | h0
       · subst h0
         have e:w.setRow g (cur.toList.take n++mY (List.replicate 0 0)++cur.toList.drop (n+(mY (List.replicate 0 0)).length)).toArray=w:=by
          have:(cur.toList.take n++mY (List.replicate 0 0)++cur.toList.drop (n+(mY (List.replicate 0 0)).length)).toArray=cur:=by simp [mY]
          rw [this,setRow_self w g cur _ _ hh]
         rw [e]
         have hroom':n≤c:=by omega
         simp [Builtin.append_,run_underlying Tryz.underlying139,run_underlying hk,sizeOf,typeInfo,hi,hz2,hroom',storeCells,ha,hw0]
       · have h0':¬ m=0:=by omega
         simp [Builtin.append_,run_underlying Tryz.underlying139,run_underlying hk,sizeOf,typeInfo,zeroValue,hi,hz0,hz1,hz2,hroom,hmw,hneg,hmb,h0',hzc,Addr.add_lit,hz1' m h0',hst,ha]
     · have hl:(mY (List.replicate m 0)).length=m:=by rw [dJ,List.length_replicate]
       refine ⟨by rw [dJ,Nat.mul_one],.inr ⟨g,c,_,by rw [List.length_append,List.length_replicate,← e2],hg,setRow_heap w g _ _ _ _ hh,by rw [List.length_append,List.length_replicate,← e2];exact hroom,h3,?_,?_⟩⟩
       · rw [hl]
         simp only [List.size_toArray,List.length_append,List.length_take,List.length_drop,Array.length_toList (xs:=cur),hl]
         omega
       · rw [Nat.mul_one] at h5 ⊢
         rw [h5,List.length_append,List.length_replicate,hl,C8]
         rw [List.take_append_of_le_length (by rw [List.length_append,dJ,hl];exact Nat.le_refl _),List.take_of_length_le (by rw [List.length_append,dJ,hl];exact Nat.le_refl _)]
   · have hm0:¬ m=0:=by omega
     have h63':¬ (9223372036854775807<(n:Int)+(m:Int)):=by omega
     have h48':¬ (281474976710656<Builtin.nextslicecap (n+m) c*8):=by
      have:=growslice_fits (need:=n+m) (old:=c) (bytes:=8) (by omega) (by omega)
      omega
     have hxl:(mY o).length=n*1:=by rw [dJ,e2,Nat.mul_one]
     have holds:∀ j u,(mY o)[j]?=some u→w.cell? ((⟨g,0,none⟩:Addr).add j)=some u:=hh0.cells (g:=g) rfl
     have hfo:=run_firstCells_some (P:=Tryz.prog) w.drew 1 n ⟨g,0,none⟩ n c (mY o) hxl (by simpa using holds)
     have hge:=grownCap_ge w (n+m) c 100
     have hcm:grownCap w (n+m) c 100 ≤ maxLen:=grownCap_le_maxLen w (n+m) c 100 (by unfold maxLen;omega)
     have hz2':=uS m
     refine ⟨w.heap.size,grownCap w (n+m) c 100,w.drew.alloc (.cells ((mY o).toArray++(mY (List.replicate m 0)).toArray++Builtin.zeroCells #[Value.int .u64 0] (grownCap w (n+m) c 100 - (n+m))) 100),?_,?_,.inr rfl,⟨rfl,rfl,rfl,by simp,fun k hk _=>heap_alloc_old w.drew _ hk⟩⟩
     · simp [Builtin.append_,run_underlying Tryz.underlying139,run_underlying hk,sizeOf,typeInfo,zeroValue,hi,hz0,hz1,hz2,hroom,hmw,hneg,hmb,hm0,hzc,h63',h48',Question.forced,hfo,newRow,grownCap,hz2',ha]
       have e3:∀ Z:Array Value,(mY o).toArray++((mY (List.replicate m 0)).toArray++Z)=(mY o++mY (List.replicate m 0)).toArray++Z:=fun Z=>by apply Array.ext';simp
       rw [e3]
     · refine ⟨by rw [dJ,Nat.mul_one],.inr ⟨w.heap.size,_,_,by rw [List.length_append,List.length_replicate,← e2],hb,heap_alloc_new w.drew _,by rw [List.length_append,List.length_replicate,← e2];exact hge,hcm,?_,?_⟩⟩
       · simp only [Array.size_append,List.size_toArray,size_zeroCells,dJ,List.length_replicate]
         rw [← e2]
         simp
         omega
       · simp only [Array.toList_append,Nat.mul_one]
         rw [← C8,← dJ (o++List.replicate m 0)]
         exact List.take_left
theorem Db {w:World} {ops:Array Oper} {rest:List Oper} {o:Oper} {a:Act} {Q:Exit→Act→World→Prop} (hgd:o.guard=none) (s x:Operand) (hty:o.type = 139)
  (ho:o.op = .call { callee:=.builtin .append,args:=#[s,x],argTypes:=#[139,3] }) (g n c m base:Nat) (os:List Nat) (hs:a.eval s = .slice (some ⟨g,0,none⟩) n c) (hx:a.eval x = .int .i64 (m:Nat))
  (hown:Ow w base (.slice (some ⟨g,0,none⟩) n c) os) (hnm:n+m≤1000000) (hb:base≤w.heap.size)
  (h:∀ g' c' w',Ow w' base (.slice (some ⟨g',0,none⟩) (n+m) c') (os++List.replicate m 0)→(g'=g∨g'=w.heap.size)→w.grownBy w' (some g)→wpList Tryz.prog ops Q rest (a.put o.dst (.slice (some ⟨g',0,none⟩) (n+m) c')) w'):wpList Tryz.prog ops Q (o::rest) a w:=by
 obtain ⟨g',c',w',hr,h1,h2,h3⟩:=F8 w base g n c m os hown hnm hb
 refine wpList_plain hgd fun K hK=>?_
 unfold Oper.wp execOp
 simp only [ho,resolve,invoke,builtin,Sem.run_bind,Sem.run_pure,Result.andThen_ok,List.map_toArray,List.map_cons,List.map_nil,hs,hx,hty,hr]
 exact hK _ _ (h g' c' w' h1 h2 h3)
end Go.Proofs.YtdpmbgomcjnohaaGreatDoor
/- A product by three products of halves. -/
namespace Go.Proofs.YtdpmbgomcjnohaaGreatDoor
open Go.RowKit
set_option linter.unusedVariables false
set_option maxHeartbeats 400000
abbrev Wh:Value:=.agg #[.int .i64 40,.func (.func 166) #[] #[],.func (.func 152) #[] #[]]
def IQ (N:Nat):Prop:=∀ (w:World) (q1 q2:Nat) (va vb:Value) (cZ bs:List Nat) (na nb:Nat),V q1 w va cZ→V q2 w vb bs→cZ.length=na→bs.length=nb→na+nb<N →
 Calls Tryz.prog 156 #[Wh,va,vb] w fun e w'=>Prod w w' e na nb cZ bs∧Ext w w'
theorem Prod.open {w w':World} {e:Ending} {na nb:Nat} {cZ bs:List Nat} (h:Prod w w' e na nb cZ bs) (n:Nat) (hn:na+nb=n) :
 ∃ g c o,e = .returned (.slice (some ⟨g,0,none⟩) n c)∧Ow w' w.heap.size (.slice (some ⟨g,0,none⟩) n c) o∧aU o=aU cZ*aU bs∧(∀ x∈o,x<18446744073709551616)∧o.length=n:=by
 obtain ⟨g,c,o,he,ho,hv,hl⟩:=h
 subst hn
 exact ⟨g,c,o,he,ho,hv,hl,ho.caps.1.symm⟩
theorem JA.done {n off A zl:Nat} {o:List Nat} {cy:Nat} (h:JA n off A zl o cy) (hn:off+zl=n) (hA:A<BB^n):aU o=A:=by
 have hv:=h.val
 rw [hn] at hv
 rcases Nat.eq_zero_or_pos cy with h0 | h0
 · rw [h0,Nat.mul_zero,Nat.add_zero] at hv;exact hv
 · have h1:cy=1:=by have:=h.zT;omega
   rw [h1,Nat.mul_one] at hv
   omega
theorem Sa.done {n off A T zl:Nat} {o:List Nat} {cy:Nat} (h:Sa n off A T zl o cy) (hn:off+zl=n) (hT:T≤A):aU o=A-T:=by
 have hv:=h.val
 rw [hn] at hv
 have hlt:=uV o h.lt
 rw [h.len] at hlt
 rcases Nat.eq_zero_or_pos cy with h0 | h0
 · rw [h0,Nat.mul_zero,Nat.add_zero] at hv;omega
 · have h1:cy=1:=by have:=h.zT;omega
   rw [h1,Nat.mul_one] at hv
   omega
theorem I9 (A0 A1 B0 B1 P:Nat):(A0+P*A1)*(B0+P*B1)=A0*B0+P*P*(A1*B1)+P*(A0*B1+A1*B0):=by grind
theorem Sj (A0 A1 B0 B1:Nat):(A0+A1)*(B0+B1)-A0*B0-A1*B1=A0*B1+A1*B0:=by
 have:(A0+A1)*(B0+B1)=A0*B0+A1*B1+(A0*B1+A1*B0):=by grind
 omega
theorem Yf (A0 A1 B0 B1:Nat):A0*B0≤(A0+A1)*(B0+B1)∧A1*B1≤(A0+A1)*(B0+B1)-A0*B0:=by
 have:(A0+A1)*(B0+B1)=A0*B0+A1*B1+(A0*B1+A1*B0):=by grind
 omega
theorem Ja (o:List Nat) (k:Nat) (hk:k≤o.length) (h:aU o<BB^k):aU (o.take k)=aU o:=by
 have e:=lY o k hk
 rcases Nat.eq_zero_or_pos (aU (o.drop k)) with h0 | h0
 · rw [h0,Nat.mul_zero,Nat.add_zero] at e;exact e.symm
 · have:BB^k*1≤BB^k*aU (o.drop k):=Nat.mul_le_mul_left _ h0
   omega
theorem F9 {cZ bs:List Nat} (ha:∀ x∈cZ,x<18446744073709551616) (hb:∀ x∈bs,x<18446744073709551616):aU cZ*aU bs<BB^(cZ.length+bs.length):=by
 rw [Nat.pow_add]
 exact Nat.mul_lt_mul'' (uV cZ ha) (uV bs hb)
theorem K5 (zl n n2 m1 m2 r k:Nat) (o1 o2 o5 A0 A1 B0 B1 cZ bs:List Nat) (hlen1:o1.length=n2) (M4:o2.length=m1) (V8:o5.length=m2)
  (hl1:∀ x∈o1,x<18446744073709551616) (hl2:∀ x∈o2,x<18446744073709551616) (hn2:n+n=n2) (hz:n2+m1=zl) (hr:n+r=zl) (hk:min r m2=k)
  (hv1:aU o1=aU A0*aU B0) (hv2:aU o2=aU A1*aU B1) (hmid:aU o5=aU A0*aU B1+aU A1*aU B0) (ea:aU cZ=aU A0+BB^n*aU A1) (eb:aU bs=aU B0+BB^n*aU B1)
  (hla:∀ x∈cZ,x<18446744073709551616) (hlb:∀ x∈bs,x<18446744073709551616) (hlz:cZ.length+bs.length=zl) :
  (∀ x∈splice (splice (List.replicate zl 0) 0 o1) n2 o2,x<18446744073709551616)∧aU (splice (splice (List.replicate zl 0) 0 o1) n2 o2)+BB^n*aU (o5.take k)=aU cZ*aU bs ∧
  aU (splice (splice (List.replicate zl 0) 0 o1) n2 o2)+BB^n*aU (o5.take k)<BB^zl:=by
 have hsp1:=vX (List.replicate zl 0) o1 0 (by rw [List.length_replicate,hlen1];omega) (fun j _ _=>gZ zl j)
 have aej:=C9 (List.replicate zl 0) o1 0 (by rw [List.length_replicate,hlen1];omega)
 have hsp2:=vX (splice (List.replicate zl 0) 0 o1) o2 n2 (by rw [aej,List.length_replicate,M4];omega) (fun j hj _=>by rw [DR _ _ _ _ (by rw [List.length_replicate,hlen1];omega) (by rw [hlen1];omega)];exact gZ zl j)
 rw [hsp1,kL,Nat.zero_add,Nat.pow_zero,Nat.one_mul] at hsp2
 have hlO:=yV (splice (List.replicate zl 0) 0 o1) o2 n2 (yV (List.replicate zl 0) o1 0 (fun x hx=>by simp at hx;omega) hl1) hl2
 have hab:=F9 hla hlb
 rw [hlz] at hab
 have hm:=I9 (aU A0) (aU A1) (aU B0) (aU B1) (BB^n)
 rw [← ea,← eb,← hv1,← hv2,← hmid,← Nat.pow_add,hn2] at hm
 have htk:aU (o5.take k)=aU o5:=by
  rcases Nat.le_total m2 r with h | h
  · rw [List.take_of_length_le (by omega)]
  · refine Ja o5 k (by omega) ?_
    rw [show k=r by omega]
    have h1:BB^n*aU o5<BB^n*BB^r:=by rw [← Nat.pow_add,hr];omega
    exact Nat.lt_of_mul_lt_mul_left h1
 rw [htk,hsp2]
 exact ⟨hlO,hm.symm,by omega⟩
set_option maxRecDepth 100000 in
set_option maxHeartbeats 8000000 in
theorem Ga (N:Nat) (IH:IQ N) (w:World) (q1 q2:Nat) (va vb:Value) (cZ bs:List Nat) (ha:V q1 w va cZ) (hb:V q2 w vb bs) (na nb:Nat) (hna:cZ.length=na) (hnb:bs.length=nb)
  (h1:nb≤na) (h2:na<2*nb) (h3:40≤nb) (h4:na+nb≤N) (h5:na+nb≤20000) :
  Calls Tryz.prog 166 #[va,vb,.func (.func 156) #[Wh] #[]] w fun e w'=>Prod w w' e na nb cZ bs∧Ext w w':=by
 obtain ⟨ad,ca,hva,hca,hbk,hne,hcell⟩:=ha.opened hna (by omega)
 obtain ⟨Jv,cb,hvb,hcb,hbk2,hne2,hcell2⟩:=hb.opened hnb (by omega)
 subst hva hvb
 clear hcell hcell2
 obtain ⟨n,hn⟩:∃ n,(na+1)/2=n:=⟨_,rfl⟩
 have hni:((na:Int)+1)/2=(n:Int):=by omega
 have hn1:20≤n:=by omega
 have hn2:n≤na:=by omega
 have Zj:2*n≤na+1:=by omega
 have hn4:na≤2*n:=by omega
 obtain ⟨a1,ha1⟩:∃ a1,na-n=a1:=⟨_,rfl⟩
 have aek:(na:Int)-(n:Int)=(a1:Int):=by omega
 by_cases hc:nb≤n
 · have hd:decide ((nb:Int)≤(n:Int))=true:=by rw [decide_eq_true_iff];omega
   have hE0:=Ext.refl w
   have Td:=Lib.hid IH
   have E5:V q1 w (.slice (some ad) n n) (cZ.take n):=ha.take hn2 (Nat.le_refl _)
   have hA1:V q1 w (.slice (some (ad.add n)) a1 (ca-n)) (cZ.drop n):=ha.drop hn2 ha1 (by omega)
   have lA0:(cZ.take n).length=n:=by rw [List.length_take];omega
   have lA1:(cZ.drop n).length=a1:=by rw [List.length_drop];omega
   have eA:=lY cZ n (by omega)
   have hab:=F9 ha.lim hb.lim
   rw [hna,hnb] at hab
   have hHL:=Lib.hid (And.intro lA0 (And.intro lA1 hnb))
   have hEA:=Lib.hid (And.intro eA hab)
   obtain ⟨A0,Sk⟩:∃ A0,cZ.take n=A0:=⟨_,rfl⟩
   obtain ⟨A1,Sm⟩:∃ A1,cZ.drop n=A1:=⟨_,rfl⟩
   rw [Sk] at E5 hHL hEA
   rw [Sm] at hA1 hHL hEA
   clear Sk Sm lA0 lA1 eA hab hna hnb IH ha
   obtain ⟨n2,Og⟩:∃ n2,n+nb=n2:=⟨_,rfl⟩
   obtain ⟨m1,Sq⟩:∃ m1,a1+nb=m1:=⟨_,rfl⟩
   obtain ⟨zl,hzl⟩:∃ zl,na+nb=zl:=⟨_,rfl⟩
   have hk1:n2+a1=zl:=by omega
   have hk2:zl-n=m1:=by omega
   have hk3:n<zl:=by omega
   have hk4:(n:Int)<(zl:Int):=by omega
   have hk5:n<na:=by omega
   have hk6:(n:Int)<(na:Int):=by omega
   have hki:(n2:Int)+(a1:Int)=(zl:Int):=by omega
   go_enter Tryz.func166,Tryz.ntmps166
   go_wp2_with (fail)
   simp only [hni]
   refine (Td.out _ q1 q2 _ _ A0 bs n nb E5 hb hHL.out.1 hHL.out.2.2 (by omega)).mono ?_
   rintro e w1 ⟨hp,hB⟩
   obtain ⟨g1,c1,o1,rfl,ho1,hv1,hl1,hlen1⟩:=hp.open n2 Og
   have hg1:=ho1.block
   have aaE:=hA1
   have hbw:=hb
   clear hp hE0 E5
   go_wp2_with (first
    | (with_reducible show wpList _ _ _ (⟨some 36,_,_,_,_,_⟩::_) _ _;refine Classical.byContradiction fun hcontra=>?_)
    | fail)
   refine hcontra ?_
   refine Db (o:=⟨some 36,_,_,_,_,_⟩) rfl (.tmp 31) (.tmp 35) rfl rfl g1 n2 c1 a1 w.heap.size o1 rfl rfl ho1 (by omega) hB.size ?_
   intro g2 c2 w2 ho2 hg2 hgr
   clear hcontra
   rw [hk1] at ho2 ⊢
   have hg1':w.heap.size≤g1:=hg1.1
   have ael:w.heap.size≤g2:=by have:=hB.size;omega
   have hE2:Ext w w2:=hB.grown hgr hB.size (fun k e=>by have e':k=g1:=(Option.some.inj e).symm;omega)
   have hs2:=hgr.size
   have aaF:V q1 w2 (.slice (some (ad.add n)) a1 (ca-n)) A1:=aaE.below hE2
   have hb':V q2 w2 (.slice (some Jv) nb cb) bs:=hbw.below hE2
   have Yg:=ho2.block.2
   have hzo:aU (o1++List.replicate a1 0)=aU A0*aU bs:=by rw [DT,hv1]
   have aem:∀ x∈o1++List.replicate a1 0,x<18446744073709551616:=by
    intro x hx
    rcases List.mem_append.1 hx with h | h
    · exact hl1 x h
    · simp at h;omega
   generalize o1++List.replicate a1 0=O at *
   have hT:=Lib.hid (Td.out w2.drew q1 q2 _ _ A1 bs a1 nb aaF hb' hHL.out.2.1 hHL.out.2.2 (by omega))
   have aaG:Ow w2.drew w.heap.size (.slice (some ⟨g2,0,none⟩) zl c2) O:=ho2
   clear aaF hb' aaE hbw hA1 hb hgr hB ho1 hl1 hlen1 hv1
   have hk7:n+m1=zl:=by omega
   have hcz:m1≤c2-n:=by have:=ho2.caps;omega
   have aen:zl≤1000000:=by omega
   have ajf:n<c2:=by have:=ho2.caps;omega
   have agd:(n:Int)<(c2:Int):=by omega
   have ajg:zl≤c2:=by have:=ho2.caps;omega
   have age:(zl:Int)≤(c2:Int):=by omega
   have ajh:(n:Int)≤(zl:Int):=by omega
   have agf:(n:Int)≤(c2:Int):=by omega
   have aji:(0:Int)≤(n:Int):=by omega
   have agh:(n:Int)≤(na:Int):=by omega
   have ajj:(na:Int)≤(ca:Int):=by omega
   have agi:(n:Int)≤(ca:Int):=by omega
   have ajk:n<ca:=by omega
   have aeo:¬ (ca=n):=by omega
   have agj:¬ (c2=n):=by omega
   have agk:(n:Int)<(ca:Int):=by omega
   clear ho2 hn Zj hn4 hc hd Og h1 h2 h3 h4 h5 hbk hbk2 hne hne2 hca hcb hs2 Yg
   go_wp2_with (fail)
   go_region_held3 (fun X=>True)
    (first
     | exact trivial)
    (first
     | (go_at_call 156;((with_reducible refine hT.out.mono ?_);rintro e w3 ⟨hp,hB3⟩;obtain ⟨g3,c3,o3,rfl,ho3,hv3,hl3,hlen3⟩:=hp.open m1 Sq;have aaH:=aaG.ext hB3;have hg3:=ho3.block.1;have Yg:=aaG.block.2;have hV3:=ho3.Dr hl3 g2 (by omega)))
     | (go_at_call 160;((with_reducible refine (pg w3 g2 w.heap.size zl c2 n m1 (c2-n) O o3 _ aaH aem (Nat.le_of_eq hk7) hcz aen hV3 (Nat.le_of_eq hlen3)).mono ?_);rintro e w4 ⟨⟨o6,cy6,rfl,OC,Yh⟩,hB4⟩)))
   have hval:aU O+BB^n*aU o3=aU cZ*aU bs:=by
    rw [hzo,hv3,hEA.out.1,Nat.add_mul,Nat.mul_assoc]
   have hv6:=OC.done hk7 (by rw [hval,← hzl];exact hEA.out.2)
   rw [hval] at hv6
   have HF:Hid (Prod w w4 (.returned (.slice (some ⟨g2,0,none⟩) zl c2)) na nb cZ bs):=by
    refine ⟨g2,c2,o6,by rw [hzl],?_,hv6,OC.lt⟩
    rw [hzl];exact Yh
   have TE:Ext w w4:=(hE2.drew.below hB3).but hB4 ael
   clear hv6 OC Yh hB4 hB3 hval hT hV3 aaH ho3 hp
   go_wp2
   go_ret
   exact ⟨HF.out,TE⟩
 · obtain ⟨b1,hb1⟩:∃ b1,nb-n=b1:=⟨_,rfl⟩
   have hd:decide ((nb:Int)≤(n:Int))=false:=by rw [decide_eq_false_iff_not];omega
   have hE0:=Ext.refl w
   have Td:=Lib.hid IH
   have E5:V q1 w (.slice (some ad) n n) (cZ.take n):=ha.take hn2 (Nat.le_refl _)
   have hA1:V q1 w (.slice (some (ad.add n)) a1 (ca-n)) (cZ.drop n):=ha.drop hn2 ha1 (by omega)
   have hB0:V q2 w (.slice (some Jv) n n) (bs.take n):=hb.take (by omega) (Nat.le_refl _)
   have hB1:V q2 w (.slice (some (Jv.add n)) b1 (cb-n)) (bs.drop n):=hb.drop (by omega) hb1 (by omega)
   have lA0:(cZ.take n).length=n:=by rw [List.length_take];omega
   have lA1:(cZ.drop n).length=a1:=by rw [List.length_drop];omega
   have lB0:(bs.take n).length=n:=by rw [List.length_take];omega
   have lB1:(bs.drop n).length=b1:=by rw [List.length_drop];omega
   have eA:=lY cZ n (by omega)
   have eB:=lY bs n (by omega)
   have Jw:Hid (cZ.length+bs.length=na+nb):=by rw [Hid,hna,hnb]
   have HLA:=Lib.hid ha.lim
   have Yx:=Lib.hid hb.lim
   have HE:=Lib.hid (And.intro eA eB)
   have HL:=Lib.hid (And.intro lA0 (And.intro lA1 (And.intro lB0 lB1)))
   have hnn:n≤nb:=by omega
   clear ha hb IH hn hna hnb eA eB lA0 lA1 lB0 lB1
   obtain ⟨A0,Sk⟩:∃ A0,cZ.take n=A0:=⟨_,rfl⟩
   obtain ⟨A1,Sm⟩:∃ A1,cZ.drop n=A1:=⟨_,rfl⟩
   obtain ⟨B0,aaJ⟩:∃ B0,bs.take n=B0:=⟨_,rfl⟩
   obtain ⟨B1,aaK⟩:∃ B1,bs.drop n=B1:=⟨_,rfl⟩
   rw [Sk] at E5 HL HE
   rw [Sm] at hA1 HL HE
   rw [aaJ] at hB0 HL HE
   rw [aaK] at hB1 HL HE
   clear Sk Sm aaJ aaK
   obtain ⟨n2,Og⟩:∃ n2,n+n=n2:=⟨_,rfl⟩
   obtain ⟨m1,Sq⟩:∃ m1,a1+b1=m1:=⟨_,rfl⟩
   obtain ⟨m2,Yi⟩:∃ m2,(n+1)+(n+1)=m2:=⟨_,rfl⟩
   go_enter Tryz.func166,Tryz.ntmps166
   go_wp2_with (fail)
   simp only [hni]
   go_quiet (fail)
   go_wp2_with (fail)
   have hE1:Ext w (w.drewN nq):=jq w nq
   refine (Td.out _ q1 q2 _ _ A0 B0 n n (E5.below hE1) (hB0.below hE1) HL.out.1 HL.out.2.2.1 (by omega)).mono ?_
   rintro e w1 ⟨hp,hB⟩
   obtain ⟨g1,c1,o1,rfl,ho1,hv1,hl1,hlen1⟩:=hp.open n2 Og
   replace hE1:=hE1.below hB
   clear hp hB
   go_wp2_with (fail)
   refine (Td.out _ q1 q2 _ _ A1 B1 a1 b1 (hA1.below hE1) (hB1.below hE1) HL.out.2.1 HL.out.2.2.2 (by omega)).mono ?_
   rintro e w2 ⟨hp,hB⟩
   obtain ⟨g2,c2,o2,rfl,ho2,hv2,hl2,M4⟩:=hp.open m1 Sq
   replace hE1:=hE1.below hB
   have hg1:=ho1.block
   replace ho1:=ho1.ext hB
   have hs2:=hB.size
   clear hp hB
   go_wp2_with (fail)
   have hmx:max n a1+1=n+1:=by omega
   have aaL:max n b1+1=n+1:=by omega
   refine (EB w2 q1 _ _ A0 A1 (E5.below hE1) (hA1.below hE1) (n+1) (by rw [HL.out.1,HL.out.2.1];exact hmx) (by omega)).mono ?_
   rintro e w3 ⟨rfl,⟨s1,hs1,aaM,hsl1,Sr⟩,hB⟩
   replace hE1:=hE1.below hB
   have hg2:=ho2.block
   replace ho1:=ho1.ext hB
   replace ho2:=ho2.ext hB
   have hs3:=hB.size
   have hb3:=hs1.block
   obtain ⟨g3,hg3⟩:∃ g3,w2.heap.size=g3:=⟨_,rfl⟩
   rw [hg3] at hs1 hb3 ⊢
   clear hB
   go_wp2_with (fail)
   refine (EB w3 q2 _ _ B0 B1 (hB0.below hE1) (hB1.below hE1) (n+1) (by rw [HL.out.2.2.1,HL.out.2.2.2];exact aaL) (by omega)).mono ?_
   rintro e w4 ⟨rfl,⟨s2,Vi,aaN,hsl2,Su⟩,hB⟩
   replace hE1:=hE1.below hB
   replace ho1:=ho1.ext hB
   replace ho2:=ho2.ext hB
   replace hs1:=hs1.ext hB
   have hs4:=hB.size
   have hb4:=Vi.block
   obtain ⟨g4,hg4⟩:∃ g4,w3.heap.size=g4:=⟨_,rfl⟩
   rw [hg4] at Vi hb4 ⊢
   clear hB
   go_wp2_with (fail)
   have hsw:=hE1.size
   refine (Td.out w4 (g3+1) (g4+1) _ _ s1 s2 (n+1) (n+1) (hs1.Dr hsl1 (g3+1) (by omega)) (Vi.Dr hsl2 (g4+1) (by omega)) Sr Su (by omega)).mono ?_
   rintro e w5 ⟨hp,hB⟩
   obtain ⟨g5,c5,o3,rfl,ho3,hv3,hl3,hlen3⟩:=hp.open m2 Yi
   replace hE1:=hE1.below hB
   replace ho1:=ho1.ext hB
   replace ho2:=ho2.ext hB
   have hb5:=ho3.block
   have PL:=ho3.caps.2.1
   obtain ⟨Sv,M5⟩:=Yf (aU A0) (aU A1) (aU B0) (aU B1)
   rw [aaM,aaN] at hv3
   rw [← hv1,← hv3] at Sv
   rw [← hv1,← hv2,← hv3] at M5
   have hmid:=Sj (aU A0) (aU A1) (aU B0) (aU B1)
   rw [← hv1,← hv2,← hv3] at hmid
   clear hp hB hs1 Vi aaM aaN hsl1 hsl2 Sr Su
   go_wp2_with (fail)
   refine (tL w5 g5 w4.heap.size m2 c5 0 m2 c5 o3 o1 _ ho3 hl3 (by omega) PL (by omega) (ho1.Dr hl1 g5 (by omega)) (by rw [hlen1];omega)).mono ?_
   rintro e w6 ⟨rfl,⟨o4,cy4,fJ,ho4⟩,zJ⟩
   rw [Nat.pow_zero,Nat.one_mul] at fJ
   have hv4:=fJ.done (Nat.zero_add _) Sv
   have hl4:=fJ.lt
   rw [← hv4] at M5 hmid
   replace hE1:=hE1.but zJ (by omega)
   replace ho1:=ho1.but zJ (by omega)
   replace ho2:=ho2.but zJ (by omega)
   have hs6:=zJ.size
   clear zJ fJ hv4 ho3 hl3 hlen3 hv3 Sv
   go_wp2_with (fail)
   refine (tL w6 g5 w4.heap.size m2 c5 0 m2 c5 o4 o2 _ ho4 hl4 (by omega) PL (by omega) (ho2.Dr hl2 g5 (by omega)) (by rw [M4];omega)).mono ?_
   rintro e w7 ⟨rfl,⟨o5,cy5,hS5,ho5⟩,hB7⟩
   rw [Nat.pow_zero,Nat.one_mul] at hS5
   have hv5:=hS5.done (Nat.zero_add _) M5
   have hl5:=hS5.lt
   have V8:=hS5.len
   rw [← hv5] at hmid
   replace hE1:=hE1.but hB7 (by omega)
   replace ho1:=ho1.but hB7 (by omega)
   replace ho2:=ho2.but hB7 (by omega)
   have hs7:=hB7.size
   clear hB7 hS5 hv5 ho4 hl4 M5
   obtain ⟨i0,hi,hz0,hz1,hz2⟩:=info_parts rO
   obtain ⟨zl,hzl⟩:∃ zl,na+nb=zl:=⟨_,rfl⟩
   have h5':na+nb=zl→zl≤20000:=fun h=>by rw [← h];exact h5
   have ajl:(na:Int)+(nb:Int)=(zl:Int):=by omega
   have h2n:(2:Int)*(n:Int)=(n2:Int):=by omega
   have hzn:zl-n2=m1:=by omega
   obtain ⟨g8,hg8⟩:∃ g8,w7.heap.size=g8:=⟨_,rfl⟩
   have aer:=Lib.hid hmid
   have aaP:=Lib.hid (And.intro hv1 hv2)
   have hV1:V g8 w7 _ o1:=ho1.Dr hl1 g8 (by omega)
   have hV2:V g8 w7 _ o2:=ho2.Dr hl2 g8 (by omega)
   have hV5:V g8 w7 _ o5:=ho5.Dr hl5 g8 (by have:=ho5.block;omega)
   have ajn:n2≤zl:=by omega
   have hz1b:zl≤20000:=h5' hzl
   have ajo:n≤zl:=by omega
   have ajp:(0:Int)≤(n2:Int):=by omega
   have ajq:n2<zl:=by omega
   have ajr:(n2:Int)<(zl:Int):=by omega
   have ajs:0<m1:=by omega
   have ajt:(n2:Int)≤(zl:Int):=by omega
   have hk5:n2+m1=zl:=by omega
   have hH:Hid (na+nb=zl∧n+n=n2∧a1+b1=m1∧(n+1)+(n+1)=m2∧na-n=a1∧nb-n=b1∧n≤na∧n≤nb∧20≤n∧w.heap.size≤g8):=⟨hzl,Og,Sq,Yi,ha1,hb1,hn2,hnn,hn1,by rw [← hg8];exact hE1.size⟩
   clear hmid hv1 hv2 ho1 ho2 ho5 hs2 hs3 hs4 hs6 hs7 hb3 hb4 hb5 hg1 hg2 hg3 hg4 hE0 E5 hA1 hB0 hB1 hmx aaL hca hcb hbk hbk2 hne hne2 hsw Td h1 h2 h3 h4 h5 hn1 hn2 Zj hn4 ha1 hb1 hnn Og Sq Yi hzl aek hc hd h5'
   go_wp2_with (first
    | (at_make;refine wpList_make_full _ rfl _ _ 139 rfl w7.heap.size 100 i0 (.int .u64 0) 1 Tryz.underlying139 hi hz0 hz1 _ _ _ _ zl rfl rfl (by omega) (by omega) (by rw [hz2];omega) (by unfold maxLen;omega) (Nat.le_refl _) ?_;intro w8 hown hgrow;have hz:=Ow.zeros hown;rw [hg8] at hz;have iX:Ext w7 w8:=(Ext.refl w7).grown hgrow (Nat.le_refl _) (fun _ h=>by cases h);have aes:=hV1.below iX;have aet:=hV2.below iX;have aeu:=hV5.below iX;have rE:=hE1.below iX;clear hown hgrow)
    | (with_reducible show wpList _ _ _ _ _ _;refine qZ (o:=⟨some 92,_,_,_,_,_⟩) rfl (.tmp 90) (.tmp 91) rfl g8 0 zl zl (some ⟨g1,0,none⟩) n2 c1 rfl rfl g8 zl zl (List.replicate zl 0) hz o1 aes (by omega) (by omega) ?_;intro w9 hz9 hb9;have aew:=aet.but hb9;have aex:=aeu.but hb9)
    | (with_reducible show wpList _ _ _ _ _ _;refine qZ (o:=⟨some 98,_,_,_,_,_⟩) rfl (.tmp 96) (.tmp 97) rfl g8 n2 m1 m1 (some ⟨g2,0,none⟩) m1 c2 rfl rfl g8 zl zl _ hz9 o2 aew (Nat.le_refl _) (by omega) ?_;intro Ic aaQ aaR;have V9:=aex.but aaR)
    | fail)
   obtain ⟨r,hr⟩:∃ r,zl-n=r:=⟨_,rfl⟩
   obtain ⟨k,hk⟩:∃ k,min r m2=k:=⟨_,rfl⟩
   have hri:(zl:Int)-(n:Int)=(r:Int):=by omega
   have hnz:n<zl:=by omega
   have hrw:IntKind.i64.wrap (r:Int)=(r:Int):=IntWalk.i64_in _ (by omega)
   have aju:(n:Int)<(zl:Int):=by omega
   have hO:=Lib.hid (K5 zl n n2 m1 m2 r k o1 o2 o5 A0 A1 B0 B1 cZ bs hlen1 M4 V8 hl1 hl2 hH.out.2.1 hk5 (by omega) hk aaP.out.1 aaP.out.2 aer.out HE.out.1 HE.out.2 HLA.out Yx.out (by rw [← hH.out.1];exact Jw.out))
   generalize splice (splice (List.replicate zl 0) 0 o1) n2 o2=O at *
   have aaS:Ow Ic.drew g8 (.slice (some ⟨g8,0,none⟩) zl zl) O:=aaQ
   have hV6:V g8 Ic.drew (.slice (some ⟨g5,0,none⟩) k c5) (o5.take k):=(V9.take (by omega) (by omega)).below (Ext.refl Ic).drew
   have hkl:(o5.take k).length≤r:=by rw [List.length_take];omega
   have Tc:Ext w Ic:=by
    have h:=hH.out.2.2.2.2.2.2.2.2.2
    exact (rE.but hb9 h).but aaR h
   have aaT:=fun W=>Od W (some ⟨g5,0,none⟩) m2 c5 r k PL hk (by omega)
   have hAdd:=pg Ic.drew g8 g8 zl zl n r r O (o5.take k) _ aaS hO.out.1 (by omega) (Nat.le_refl _) (by omega) hV6 hkl
   have aaU:=Lib.hid aaT
   have HAdd:=Lib.hid hAdd
   clear aaT hAdd aaS hV6 hkl aaQ V9
   go_region_held3 (fun X=>True)
    (first
     | exact trivial)
    (first
     | (go_at_call 184;((with_reducible refine (aaU.out _).mono ?_);rintro e w' ⟨rfl,rfl⟩))
     | (go_at_call 160;((with_reducible refine HAdd.out.mono ?_);rintro e Oz ⟨⟨o6,cy6,rfl,OC,Yh⟩,aaV⟩)))
   have hv6:=OC.done (by omega) hO.out.2.2
   rw [hO.out.2.1] at hv6
   have HF:Hid (Prod w Oz (.returned (.slice (some ⟨g8,0,none⟩) zl zl)) na nb cZ bs):=by
    refine ⟨g8,zl,o6,by rw [hH.out.1],?_,hv6,OC.lt⟩
    rw [hH.out.1]
    exact Yh.nI hH.out.2.2.2.2.2.2.2.2.2
   have TE:Ext w Oz:=Tc.drew.but aaV hH.out.2.2.2.2.2.2.2.2.2
   clear hv6 OC Yh aaV Tc hO aaU HAdd
   go_wp2
   go_ret
   exact ⟨HF.out,TE⟩
end Go.Proofs.YtdpmbgomcjnohaaGreatDoor
/- The way of halves is right, for rows of any lengths. -/
namespace Go.Proofs.YtdpmbgomcjnohaaGreatDoor
open Go.RowKit
set_option linter.unusedVariables false
set_option maxHeartbeats 400000
theorem Prod.turn {w w':World} {e:Ending} {na nb nx ny:Nat} {cZ bs xs ys:List Nat} (h:Prod w w' e nx ny xs ys) (hn:nx+ny=na+nb) (hv:aU xs*aU ys=aU cZ*aU bs):Prod w w' e na nb cZ bs:=by
 obtain ⟨g,c,o,he,ho,hv',hl⟩:=h
 rw [hn] at he ho
 exact ⟨g,c,o,he,ho,by rw [hv',hv],hl⟩
theorem Prod.base {w0 w w':World} {e:Ending} {na nb:Nat} {cZ bs:List Nat} (h:Prod w w' e na nb cZ bs) (hB:Ext w0 w):Prod w0 w' e na nb cZ bs:=by
 obtain ⟨g,c,o,he,ho,hv',hl⟩:=h
 exact ⟨g,c,o,he,ho.nI hB.size,hv',hl⟩
theorem keepW {x y:World} {B:Nat} {v0 v1 v2:Value} (h:B<x.heap.size∧x.cell? ⟨B,0,none⟩=some v0∧x.cell? ⟨B,1,none⟩=some v1∧x.cell? ⟨B,2,none⟩=some v2) (hB:Ext x y) :
  B<y.heap.size∧y.cell? ⟨B,0,none⟩=some v0∧y.cell? ⟨B,1,none⟩=some v1∧y.cell? ⟨B,2,none⟩=some v2:=by
 obtain ⟨h0,h1,h2,h3⟩:=h
 have hc:=fun o=>hB.cell (p:=⟨B,o,none⟩) h0
 exact ⟨Nat.lt_of_lt_of_le h0 hB.size,by rw [hc];exact h1,by rw [hc];exact h2,by rw [hc];exact h3⟩
theorem Yj {x y:World} {B g:Nat} {v0 v1 v2:Value} (h:B<x.heap.size∧x.cell? ⟨B,0,none⟩=some v0∧x.cell? ⟨B,1,none⟩=some v1∧x.cell? ⟨B,2,none⟩=some v2) (hB:But g x y) (hne:B≠g) :
  B<y.heap.size∧y.cell? ⟨B,0,none⟩=some v0∧y.cell? ⟨B,1,none⟩=some v1∧y.cell? ⟨B,2,none⟩=some v2:=by
 obtain ⟨h0,h1,h2,h3⟩:=h
 have hc:=fun o=>hB.cell (p:=⟨B,o,none⟩) h0 hne
 exact ⟨Nat.lt_of_lt_of_le h0 hB.size,by rw [hc];exact h1,by rw [hc];exact h2,by rw [hc];exact h3⟩
structure TmI (xs ys:List Nat) (n a:Nat) (o:List Nat):Prop where
 len:o.length=n
 lt:∀ x∈o,x<18446744073709551616
 val:aU o=aU (xs.take a)*aU ys
set_option maxRecDepth 100000 in
set_option maxHeartbeats 8000000 in
theorem Dc (N:Nat) (hN:N≤20000) (IH:IQ N) (b:Bool) (w:World) (q1 q2:Nat) (vx vy:Value) (xs ys:List Nat) (nx ny:Nat) (hx:V q1 w vx xs) (hy:V q2 w vy ys) (hnx:xs.length=nx) (hny:ys.length=ny) (hle:ny≤nx) (hb:b=true→ny<nx) (hsum:nx+ny≤N) :
  Calls Tryz.prog 156 #[Wh,(if b then vy else vx),(if b then vx else vy)] w fun e w'=>Prod w w' e nx ny xs ys∧Ext w w':=by
 have Td:=Lib.hid IH
 have hle':=hle
 obtain ⟨A,ca,rfl,hca⟩:=hx.shape
 obtain ⟨A2,cb,rfl,hcb⟩:=hy.shape
 rw [hnx] at hx hca ⊢
 rw [hny] at hy hcb ⊢
 have hE0:Ext w (w.alloc (.cells #[.int .i64 40,.func (.func 166) #[] #[],.func (.func 152) #[] #[]] 145)):=(Ext.refl w).alloc _
 replace hx:=hx.below hE0
 replace hy:=hy.below hE0
 have HL:Hid (xs.length=nx∧ys.length=ny):=⟨hnx,hny⟩
 clear IH hnx hny
 have hb0:w.heap.size<(w.alloc (.cells #[.int .i64 40,.func (.func 166) #[] #[],.func (.func 152) #[] #[]] 145)).heap.size:=by simp
 have hc0:(w.alloc (.cells #[.int .i64 40,.func (.func 166) #[] #[],.func (.func 152) #[] #[]] 145)).cell? ⟨w.heap.size,0,none⟩=some (.int .i64 40):=by go_simp
 have hc1:(w.alloc (.cells #[.int .i64 40,.func (.func 166) #[] #[],.func (.func 152) #[] #[]] 145)).cell? ⟨w.heap.size,1,none⟩=some (.func (.func 166) #[] #[]):=by go_simp
 have hc2:(w.alloc (.cells #[.int .i64 40,.func (.func 166) #[] #[],.func (.func 152) #[] #[]] 145)).cell? ⟨w.heap.size,2,none⟩=some (.func (.func 152) #[] #[]):=by go_simp
 obtain ⟨B,hB⟩:∃ B,w.heap.size=B:=⟨_,rfl⟩
 rw [hB] at hc0 hc1 hc2 hb0
 have Dl:=Lib.hid hB
 cases b
 case' false =>
  show Calls Tryz.prog 156 #[Wh,.slice A nx ca,.slice A2 ny cb] w _
  have hd:decide ((nx:Int)<(ny:Int))=false:=by rw [decide_eq_false_iff_not];omega
  go_enter Tryz.func156,Tryz.ntmps156
  go_upto_region 3 with (fail)
 case' true =>
  show Calls Tryz.prog 156 #[Wh,.slice A2 ny cb,.slice A nx ca] w _
  have hlt:=hb rfl
  have hd:decide ((ny:Int)<(nx:Int))=true:=by rw [decide_eq_true_iff];omega
  go_enter Tryz.func156,Tryz.ntmps156
  go_upto_region 3 with (fail)
 all_goals
  clear hb hd hle
  generalize (w.alloc (.cells #[.int .i64 40,.func (.func 166) #[] #[],.func (.func 152) #[] #[]] 145))=W1 at *
  by_cases h1:ny<40
  · have hd1:decide ((ny:Int)<40)=true:=by rw [decide_eq_true_iff];omega
    go_wp2_with (fail)
    refine (Da _ q1 q2 _ _ xs ys hx hy nx ny HL.out.1 HL.out.2 (by omega)).mono ?_
    rintro e w2 ⟨hp,hB2⟩
    replace hp:=hp.base hE0
    have hE2:=hE0.below hB2
    have HP:=Lib.hid hp
    obtain ⟨g,c,o,rfl,_⟩:=hp
    go_wp2
    go_ret
    exact ⟨HP.out,hE2⟩
  · have hd1:decide ((ny:Int)<40)=false:=by rw [decide_eq_false_iff_not];omega
    by_cases h2:nx<2*ny
    · have hd2:decide ((nx:Int)<2*(ny:Int))=true:=by rw [decide_eq_true_iff];omega
      go_wp2_with (fail)
      refine (Ga N Td.out _ q1 q2 _ _ xs ys hx hy nx ny HL.out.1 HL.out.2 hle' h2 (by omega) hsum (by omega)).mono ?_
      rintro e w2 ⟨hp,hB2⟩
      replace hp:=hp.base hE0
      have hE2:=hE0.below hB2
      have HP:=Lib.hid hp
      obtain ⟨g,c,o,rfl,_⟩:=hp
      go_wp2
      go_ret
      exact ⟨HP.out,hE2⟩
    · have hd2:decide ((nx:Int)<2*(ny:Int))=false:=by rw [decide_eq_false_iff_not];omega
      have ajv:0<ny:=by omega
      obtain ⟨ad,cx,hvx,hcx,hbx,aez,Yk⟩:=hx.opened HL.out.1 (by omega)
      injection hvx with w1 w2 w3
      subst w1 w3
      clear w2 Yk aez hbx hcx
      obtain ⟨n,hn⟩:∃ n,nx+ny=n:=⟨_,rfl⟩
      have hni:(nx:Int)+(ny:Int)=(n:Int):=by omega
      obtain ⟨i0,hi,hz0,hz1,hz2⟩:=info_parts rO
      obtain ⟨Bz,hBz⟩:∃ Bz,W1.heap.size=Bz:=⟨_,rfl⟩
      have HBZ:=Lib.hid hBz
      go_wp2_with (at_make;refine wpList_make_full _ rfl _ _ 139 rfl W1.heap.size 100 i0 (.int .u64 0) 1 Tryz.underlying139 hi hz0 hz1 _ _ _ _ n rfl rfl (by omega) (by omega) (by rw [hz2];omega) (by unfold maxLen;omega) (Nat.le_refl _) ?_;intro w2 hown hgrow)
      have ho0:=Ow.zeros hown
      have hE2:Ext W1 w2:=(Ext.refl W1).grown hgrow (Nat.le_refl _) (fun _ h=>by cases h)
      rw [hBz] at ho0 hb0
      clear hown hgrow hi hz0 hz1 hz2 i0
      go_wp2_with (fail)
      have aaW:Hid (TmI xs ys n 0 (List.replicate n 0)):=⟨by simp,fun x hx=>by simp at hx;omega,by simp [kL,aU]⟩
      have aaX:=Lib.hid hx.lim
      have aaY:=Lib.hid hy.lim
      have ajw:2*ny≤nx:=by omega
      clear hd1 hd2 h1 h2 hni hBz
      go_loopw [8] (fun t wr=>∃ (a:Nat) (o:List Nat),a≤n∧t = .int .i64 (a:Nat)∧Hid (TmI xs ys n a o)∧Ow wr Bz (.slice (some ⟨Bz,0,none⟩) n n) o∧Ext W1 wr) (fun t _=>nx-(intOf t).toNat)
      case atStart=>exact ⟨0,_,Nat.zero_le _,rfl,aaW,ho0,hE2⟩
      case round =>
       clear aaW ho0 hE2
       obtain ⟨a,o,han,rfl,HO,hown,hE⟩:=hrel
       by_cases hlt:a<nx
       · obtain ⟨e,he⟩:∃ e,min (a+ny) nx=e:=⟨_,rfl⟩
         obtain ⟨p,hpe⟩:∃ p,e-a=p:=⟨_,rfl⟩
         obtain ⟨r,hrn⟩:∃ r,n-a=r:=⟨_,rfl⟩
         have agq:(if (nx:Int)<(a:Int)+(ny:Int) then (nx:Int) else (a:Int)+(ny:Int))=(e:Int):=by split<;>omega
         have agr:min ((a:Int)+(ny:Int)) (nx:Int)=(e:Int):=by omega
         have hmin3:(if nx<a+ny then (nx:Int) else (a:Int)+(ny:Int))=(e:Int):=by split<;>omega
         have f1:a<e:=by omega
         have f2:(a:Int)<(e:Int):=by omega
         have f3:e≤ca:=by omega
         have f4:(e:Int)≤(ca:Int):=by omega
         have f5:(a:Int)≤(e:Int):=by omega
         have f6:¬ (e=a):=by omega
         have f7:(0:Int)≤(a:Int):=by omega
         have f8:a<n:=by omega
         have f9:(a:Int)<(n:Int):=by omega
         have f10:(a:Int)≤(n:Int):=by omega
         have f11:¬ (n=a):=by omega
         have f12:e≤nx:=by omega
         have f13:(0:Int)≤(e:Int):=by omega
         have f14:(e:Int)≤(nx:Int):=by omega
         have f15:p+ny≤r:=by omega
         have f16:a+r=n:=by omega
         have hn6:n≤1000000:=by omega
         have hxp:V q1 wr.drew (.slice (some (ad.add a)) p p) ((xs.take e).drop a):=(((hx.below hE).take f12 (Nat.le_refl e)).drop (Nat.le_of_lt f1) hpe (Nat.le_refl _)).below (Ext.refl wr).drew
         have hyd:V q2 wr.drew (.slice A2 ny cb) ys:=(hy.below hE).below (Ext.refl wr).drew
         have hlp:((xs.take e).drop a).length=p:=by rw [List.length_drop,List.length_take,HL.out.1];omega
         have hT:=Lib.hid (Td.out wr.drew q1 q2 _ _ _ ys p ny hxp hyd hlp HL.out.2 (by omega))
         have hcut:=lY (xs.take e) a (by rw [List.length_take,HL.out.1];omega)
         rw [List.take_take,Nat.min_eq_left (by omega)] at hcut
         have hHC:=Lib.hid hcut
         have hTE:Hid (xs.take (a+ny)=xs.take e):=by
          rcases Nat.le_total (a+ny) nx with h | h
          · rw [Hid,← he,Nat.min_eq_left h]
          · rw [Hid,← he,Nat.min_eq_right h,List.take_of_length_le (by rw [HL.out.1];exact h),List.take_of_length_le (by rw [HL.out.1];exact Nat.le_refl _)]
         have hprod:Hid (aU (xs.take e)*aU ys<BB^n):=by
          have h1:=F9 (cZ:=xs.take e) (bs:=ys) (fun x h=>aaX.out x (List.mem_of_mem_take h)) aaY.out
          refine Nat.lt_of_lt_of_le h1 (Nat.pow_le_pow_right (by decide) ?_)
          rw [List.length_take,HL.out.1,HL.out.2];omega
         have hS0:B<wr.drew.heap.size∧wr.drew.cell? ⟨B,0,none⟩=some (.int .i64 40)∧wr.drew.cell? ⟨B,1,none⟩=some (.func (.func 166) #[] #[])∧wr.drew.cell? ⟨B,2,none⟩=some (.func (.func 152) #[] #[]):=by
          have hq:B<W1.heap.size:=by rw [HBZ.out];exact hb0
          have hc:=fun o=>hE.cell (p:=⟨B,o,none⟩) hq
          exact ⟨Nat.lt_of_lt_of_le hq hE.size,(hc 0).trans hc0,(hc 1).trans hc1,(hc 2).trans hc2⟩
         have Sy:Ow wr.drew Bz (.slice (some ⟨Bz,0,none⟩) n n) o:=hown
         generalize (xs.take e).drop a=P at *
         clear hxp hyd hcut he hown hx hy hlp f8
         go_wp2_with (fail)
         have aeC:=hS0
         go_region_held3 (fun X=>B<X.heap.size∧X.cell? ⟨B,0,none⟩=some (.int .i64 40)∧X.cell? ⟨B,1,none⟩=some (.func (.func 166) #[] #[])∧X.cell? ⟨B,2,none⟩=some (.func (.func 152) #[] #[]))
          (first
           | exact hS0
           | assumption
           | exact keepW (by assumption) (by assumption)
           | exact Yj (by assumption) (by assumption) (by assumption))
          (first
           | (go_at_call 156;((with_reducible refine hT.out.mono ?_);rintro e3 w3 ⟨hp,hB3⟩;obtain ⟨g3,c3,o3,rfl,ho3,hv3,hl3,hlen3⟩:=hp.open (p+ny) rfl;have Wd:=Sy.ext hB3;have hg3:=ho3.block.1;have Yg:=Sy.block.2;have hV3:=ho3.Dr hl3 Bz (by omega)))
           | (go_at_call 160;((with_reducible refine (pg w3 Bz Bz n n a r r o o3 _ Wd HO.out.lt (Nat.le_of_eq f16) (Nat.le_refl _) hn6 hV3 (by rw [hlen3];exact f15)).mono ?_);rintro e4 w4 ⟨⟨o6,cy6,rfl,OC,Yh⟩,hB4⟩;have ajy:B≠Bz:=Nat.ne_of_lt hb0)))
         have hval:aU o+BB^a*aU o3=aU (xs.take e)*aU ys:=by
          rw [HO.out.val,hv3,hHC.out,Nat.add_mul,Nat.mul_assoc]
         have hv6:=OC.done f16 (by rw [hval];exact hprod.out)
         rw [hval] at hv6
         have HST:Hid (TmI xs ys n (a+ny) o6):=⟨OC.len,OC.lt,by rw [hTE.out];exact hv6⟩
         have aW:Ext W1 w4:=(hE.drew.below hB3).but hB4 (by rw [HBZ.out];exact Nat.le_refl _)
         clear hv6 OC hB4 hB3 hval hT hV3 Wd ho3 hp hHC hTE hprod Sy HO hS0 aeC
         go_wp2
         go_roundw
         case rel=>exact ⟨a+ny,_,by omega,by go_num,HST,Yh,aW⟩
         case measure=>simp [intOf];omega
       · have hta:xs.take a=xs:=List.take_of_length_le (by rw [HL.out.1];omega)
         have HF:Hid (Prod w wr (.returned (.slice (some ⟨Bz,0,none⟩) n n)) nx ny xs ys):=by
          refine ⟨Bz,n,o,by rw [hn],?_,by rw [HO.out.val,hta],HO.out.lt⟩
          rw [hn]
          exact hown.nI (by rw [← HBZ.out];exact hE0.size)
         have TE:=hE0.below hE
         clear hown HO hE
         go_wp2
         go_ret
         exact ⟨HF.out,TE⟩
end Go.Proofs.YtdpmbgomcjnohaaGreatDoor
