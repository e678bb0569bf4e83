/- A text is read: the program's Read. -/
import Derived.Test.YtfhcmggpojhegaaGreatDoorBbe
import Derived.Test.YtfhcmggpojhegaaGreatDoorBak
import Derived.Test.YtfhcmggpojhegaaGreatDoorBar
import Derived.Test.YtfhcmggpojhegaaGreatDoorBah
import Derived.Test.YtfhcmggpojhegaaGreatDoorBbc
import Derived.Test.YtfhcmggpojhegaaGreatDoorBan
import Derived.Test.YtfhcmggpojhegaaGreatDoorBas
import Derived.Deep.RegionHeld3
import Derived.Laws.Concat

namespace Go.Proofs.YtfhcmggpojhegaaGreatDoor
open Go.RowKit
set_option linter.unusedVariables false
set_option maxHeartbeats 400000
theorem adT (S:ByteArray) (i:Nat) (hi:i<S.size):lb (qR S) i=sw ((S[i]'hi).toNat):=by
 unfold lb qR
 have h2:i<S.data.toList.length:=by rw [Array.length_toList];exact hi
 simp only [List.getElem?_map,List.getElem?_eq_getElem h2,Option.map_some,Option.getD_some,Array.getElem_toList]
 rfl
theorem Zd (S:ByteArray) (b:Nat) (h:∀ j,j<S.size→lb (qR S) j<b):∀ d∈qR S,d<b:=by
 intro d hd
 obtain ⟨j,hj,rfl⟩:=List.getElem_of_mem hd
 have h1:=h j (by rw [Fq] at hj;exact hj)
 unfold lb at h1
 simpa [hj] using h1
def RdA (w w':World) (e:Ending) (S:ByteArray) (b:Nat):Prop :=
 (∃ i,i<S.size∧(∀ j,j<i→lb (qR S) j<b)∧b≤lb (qR S) i∧e = .returned (.tuple #[.slice none 0 0,.int .i64 (i:Nat),.int .i64 50])∧w'=w) ∨
 (S.size=0∧e = .returned (.tuple #[.slice none 0 0,.int .i64 0,.int .i64 50])∧w'=w) ∨
 (S.size≠0∧(∀ d∈qR S,d<b)∧∃ u,e = .returned (.tuple #[u,.int .i64 0,.int .i64 0])∧Un w' u (fF b (qR S))∧Ext w w')
theorem Ac (S:ByteArray):S.toList.isEmpty=decide (S.size=0):=by
 rw [ByteArray.toList_eq]
 show S.data.toList.isEmpty=decide (S.data.size=0)
 cases h:S.data.toList with
 | nil =>
  have:S.data.size=0:=by rw [← Array.length_toList,h];rfl
  rw [this];rfl
 | cons x xs =>
  have:S.data.size≠0:=by rw [← Array.length_toList,h];simp
  rw [decide_eq_false this];rfl
theorem VR (ds:List Nat):(gQ ds).length≤ds.length:=by
 obtain ⟨k,hk⟩:=mZ ds
 have:=congrArg List.length hk
 rw [List.length_append,List.length_replicate] at this
 omega
theorem QH (ds:List Nat):∀ d∈gQ ds,d∈ds:=by
 intro d hd
 obtain ⟨k,hk⟩:=mZ ds
 rw [hk]
 exact List.mem_append_right _ hd
set_option maxRecDepth 100000 in
set_option maxHeartbeats 4000000 in
theorem QI (w:World) (S:ByteArray) (b:Nat) (h2:2≤b) (Tf:b≤36) (hl:S.size≤19000) (hM:(limbs (b^S.size)).length≤398) :
  Calls Tryz.prog 40 #[.string S,.int .i64 (b:Nat)] w fun e w'=>RdA w w' e S b:=by
 have hmf:∀ (fn:Fn) (first cap:Array Value) (w:World),(Instr.makeFunc fn first cap).run Tryz.prog w = .ok (.func fn first cap) w:=fun _ _ _ _=>rfl
 have hb2:¬ (b<2):=by omega
 have YU:¬ (36<b):=by omega
 have asA:¬ ((b:Int)<2):=by omega
 have amG:¬ ((b:Int)>36):=by omega
 have hat:=Lib.hid (adT S)
 have hws:=Lib.hid (Zd S b)
 have hwl:=Lib.hid (Fq S)
 have hie:=Ac S
 obtain ⟨L,hL⟩:∃ L,S.size=L:=⟨_,rfl⟩
 have HL:=Lib.hid hL
 rw [hL] at hl hM hie
 unfold RdA
 go_enter Tryz.func40,Tryz.ntmps40
 go_wp2
 go_loopw [19] (fun t wr=>∃ i,i≤L∧t = .int .i64 (i:Nat)∧Hid (∀ j,j<i→lb (qR S) j<b)∧wr=w) (fun t _=>L-(intOf t).toNat)
 case atStart=>exact ⟨0,Nat.zero_le _,rfl,fun j hj=>by omega,rfl⟩
 case round =>
  obtain ⟨i,hi,rfl,HI,rfl⟩:=hrel
  by_cases hlt:i<L
  · have hi1:(i:Int)<(L:Int):=by omega
    have hi2:i<S.size:=by omega
    have h1:=hat.out i hi2
    obtain ⟨c,hc⟩:∃ c,(S[i]'hi2).toNat=c:=⟨_,rfl⟩
    have hc256:c<256:=by rw [← hc];exact UInt8.toNat_lt _
    rw [hc] at h1
    obtain ⟨v,hv⟩:∃ v,sw c=v:=⟨_,rfl⟩
    have hv99:=ac4 c
    rw [hv] at h1 hv99
    have hbw:IntKind.u32.wrap (b:Int)=(b:Int):=by rw [IntKind.wrap_u32];omega
    have hbm:(b:Int)%4294967296=(b:Int):=by omega
    by_cases hge:b≤v
    · have asI:(b:Int)≤(v:Int):=by omega
      have HE:Hid (b≤lb (qR S) i):=by rw [h1];exact hge
      clear h1
      go_wp2_with (go_at_call 96;refine (vO _ c hc256).mono ?_;rintro e w3 ⟨rfl,rfl⟩;rw [hv])
      go_ret3
      exact .inl ⟨i,by rw [HL.out];exact hlt,HI.out,HE.out,rfl,rfl⟩
    · have asI:¬ ((b:Int)≤(v:Int)):=by omega
      have HN:Hid (∀ j,j<i+1→lb (qR S) j<b):=fun j hj=>by
       rcases Nat.lt_or_ge j i with h | h
       · exact HI.out j h
       · obtain rfl:j=i:=by omega
         rw [h1];omega
      clear h1 HI
      go_wp2_with (go_at_call 96;refine (vO _ c hc256).mono ?_;rintro e w3 ⟨rfl,rfl⟩;rw [hv])
      go_roundw
      case rel=>exact ⟨i+1,by omega,by go_num,HN,by trivial⟩
      case measure=>simp [intOf];omega
  · obtain rfl:i=L:=by omega
    by_cases h0:i=0
    · have adr:S.toList.isEmpty=true:=by rw [hie,h0];rfl
      have HL0:Hid (S.size=0):=by show _=_;rw [HL.out,h0]
      clear hie h0
      go_wp2
      go_ret3
      exact .inr (.inl ⟨HL0.out,rfl,rfl⟩)
    · have adr:S.toList.isEmpty=false:=by rw [hie];exact decide_eq_false h0
      have HL0:Hid (S.size≠0):=by show _≠_;rw [HL.out];exact h0
      have hda:=hws.out (fun j hj=>HI.out j (by rw [← HL.out];exact hj))
      have HDA:=Lib.hid hda
      clear hie h0 HI hda hlt
      obtain ⟨ds,hds⟩:∃ ds,qR S=ds:=⟨_,rfl⟩
      rw [hds] at HDA hwl
      have F5:∀ d∈ds,d<36:=fun d h=>by have:=HDA.out d h;omega
      have eS:gD ds=S:=by rw [← hds];exact Vm S (by rw [hds];exact F5)
      have hTR:=Lib.hid (fun W=>FZ W ds F5)
      rw [eS] at hTR
      have hsl:(gQ ds).length≤i:=by have:=VR ds;have:=hwl.out;have:=HL.out;omega
      have hJC:=Lib.hid (fun n p (hS:Sc b n p) Sx Jb Pb Bk W h1 h2 h3 h4=>NL wr.heap.size b n p Sx Jb Pb Bk i hS hM hl (gQ ds).length hsl W (gQ ds) 1 rfl (fun d h=>HDA.out d (QH ds d h)) h1 h2 h3 h4)
      have ahL:=Lib.hid (DL b ds)
      have HDS:=Lib.hid hds
      generalize gD (gQ ds)=T1 at *
      clear hds F5 eS hsl hM
      go_upto_region 15 with (first
       | (go_at_call 97;refine (ym _ b h2 Tf).mono ?_;rintro e w3 ⟨⟨n,p,hS,rfl⟩,bJ⟩)
       | (go_at_call 98;refine (yu _ wr.heap.size b n p hS (by have:=bJ.size;simp;omega)).mono ?_;rintro e w4 ⟨⟨Bk,rfl,hKp,hBk⟩,bX⟩))
      have Y9:=bX.size
      have hs3:w3.heap.size<w4.heap.size:=by simp at Y9;omega
      have bE:Ext w4 ((w4.alloc (.cells #[Pn Bk] 137)).alloc (.cells #[Jfn w3.heap.size (w4.heap.size+1) w4.heap.size] 139)):=((Ext.refl w4).alloc _).alloc _
      have Za:=(DY.new w3 b n p |>.ext bX).ext bE
      have hJ5:Jx w3.heap.size (w4.heap.size+1) w4.heap.size Bk ((w4.alloc (.cells #[Pn Bk] 137)).alloc (.cells #[Jfn w3.heap.size (w4.heap.size+1) w4.heap.size] 139)):=⟨⟨by simp,by go_simp⟩,⟨by simp;omega,by go_simp⟩⟩
      have QC:=hKp.ext bE
      have QD:Ext wr ((w4.alloc (.cells #[Pn Bk] 137)).alloc (.cells #[Jfn w3.heap.size (w4.heap.size+1) w4.heap.size] 139)):=((bJ.alloc _).below bX).below bE
      unfold Pn Jfn at *
      generalize ((w4.alloc (.cells #[.func (.func 150) #[] #[.pointer (some ⟨Bk,0,none⟩)]] 137)).alloc (.cells #[.func (.func 99) #[] #[.pointer (some ⟨w3.heap.size,0,none⟩),.pointer (some ⟨w4.heap.size+1,0,none⟩),.pointer (some ⟨w4.heap.size,0,none⟩)]] 139))=w5 at *
      have dJ:wr.heap.size≤w5.heap.size:=QD.size
      generalize w3.heap.size=Sx at *
      generalize w4.heap.size=Pb at *
      generalize Pb+1=Jb at *
      have QG:Ext w5 w5.drew:=(Ext.refl w5).drew
      have hS0:(Jb<w5.drew.heap.size∧w5.drew.cell? ⟨Jb,0,none⟩=some (.func (.func 99) #[] #[.pointer (some ⟨Sx,0,none⟩),.pointer (some ⟨Jb,0,none⟩),.pointer (some ⟨Pb,0,none⟩)]))∧(Pb<w5.drew.heap.size∧w5.drew.cell? ⟨Pb,0,none⟩=some (.func (.func 150) #[] #[.pointer (some ⟨Bk,0,none⟩)])):=hJ5.ext QG
      have asK:Jx Sx Jb Pb Bk w5.drew:=hJ5.ext QG
      have amU:=Za.ext QG
      have amV:=QC.ext QG
      have asL:=Lib.hid (hTR.out w5.drew)
      clear hKp bE bX bJ Y9 hs3 hBk hJ5 Za QC hTR
      go_region_held3 (fun X=>(Jb<X.heap.size∧X.cell? ⟨Jb,0,none⟩=some (.func (.func 99) #[] #[.pointer (some ⟨Sx,0,none⟩),.pointer (some ⟨Jb,0,none⟩),.pointer (some ⟨Pb,0,none⟩)]))∧(Pb<X.heap.size∧X.cell? ⟨Pb,0,none⟩=some (.func (.func 150) #[] #[.pointer (some ⟨Bk,0,none⟩)])))
       (first
        | exact hS0
        | assumption
        | exact afO (by assumption) (by assumption)
        | exact Zc (by assumption) (by assumption))
       (first
        | (go_at_call 102;((with_reducible refine asL.out.mono ?_);rintro e6 w6 ⟨rfl,bu⟩;have hJj:=Lib.hid (hJC.out n p hS Sx Jb Pb Bk w6 (amU.ext bu) (asK.ext bu) (amV.ext bu) (Nat.le_trans dJ bu.size))))
        | (go_at_call 99;((with_reducible refine hJj.out.mono ?_);rintro e7 w7 ⟨⟨u7,rfl,hu7⟩,⟨K7,amS⟩,adS⟩;obtain ⟨A7,l7,c7,rfl⟩:=U.sl hu7)))
      rw [ahL.out] at hu7
      have HU:=Lib.hid hu7
      have HE7:=Lib.hid (Below.trans ((QD.below QG).below bu) adS.below)
      clear hu7
      (try go_wp2)
      go_ret3
      exact .inr (.inr ⟨HL0.out,by rw [HDS.out];exact HDA.out,_,rfl,by rw [HDS.out];exact HU.out,HE7.out⟩)
end Go.Proofs.YtfhcmggpojhegaaGreatDoor
/- How many digits: the program's Count. -/
namespace Go.Proofs.YtfhcmggpojhegaaGreatDoor
open Go.RowKit
set_option linter.unusedVariables false
set_option maxHeartbeats 400000
structure CtI (b n a0 k a N:Nat):Prop where
 lt:a<kp b n k
 len:(nd b a0).length=N+(nd b a).length
 nz:a=0→a0=0
 le:a≤a0
theorem CtI.done {b n a0 a N:Nat} (h:CtI b n a0 0 a N) (hb:2≤b) (m:Nat) (hm:(if (nd b a).length<1 then 1 else (nd b a).length)=m):(dt b a0).length=N+m:=by
 have hl:=h.len
 by_cases ha:a=0
 · have h0:=h.nz ha
   subst ha
   subst h0
   rw [wZ] at hm hl
   rw [KJ]
   simp at hm hl
   simp
   omega
 · have h0:a0≠0:=fun e=>ha (by have:=h.le;omega)
   rw [PK h0,hl]
   have:1≤(nd b a).length:=by
    have:=Te ha hb
    cases e:nd b a with
    | nil=>exact absurd e this
    | cons x xs=>simp
   rw [if_neg (by omega)] at hm
   omega
end Go.Proofs.YtfhcmggpojhegaaGreatDoor
/- The document's over: a natural over a small number. -/
namespace Go.Proofs.YtfhcmggpojhegaaGreatDoor
open Go.RowKit
set_option linter.unusedVariables false
set_option maxHeartbeats 400000
structure OvI (xs:List Nat) (m k:Nat) (o:List Nat) (rs:Nat):Prop where
 len:o.length=xs.length
 lt:∀ x∈o,x<4294967296
 rest:rs<m
 val:val (xs.drop k)=m*val (o.drop k)+rs
theorem OvI.step {xs:List Nat} {m j:Nat} {o:List Nat} {rs:Nat} (h:OvI xs m (j+1) o rs) (hj:j<xs.length) (x n q r:Nat) (hx:lb xs j=x) (hxb:x<4294967296) (hn:4294967296*rs+x=n) (hq:n/m=q) (hr:n%m=r) :
  q<4294967296∧OvI xs m j (o.set j q) r:=by
 have hm:0<m:=Nat.lt_of_le_of_lt (Nat.zero_le _) h.rest
 have hq1:q<4294967296:=by
  rw [← hq]
  refine Nat.div_lt_of_lt_mul ?_
  have h1:4294967296*(rs+1)≤4294967296*m:=Nat.mul_le_mul_left _ h.rest
  rw [Nat.mul_comm m]
  omega
 refine ⟨hq1,by rw [List.length_set];exact h.len,fO h.lt hq1,by rw [← hr];exact Nat.mod_lt _ hm,?_⟩
 have hjo:j<(o.set j q).length:=by rw [List.length_set,h.len];exact hj
 rw [lK xs j hj,hx,h.val,lK (o.set j q) j hjo,mI q (by rw [h.len];exact hj),List.drop_set_of_lt (by omega)]
 have e:m*q+r=n:=by rw [← hq,← hr];exact Nat.div_add_mod n m
 generalize Proofs.YtfhcmggpojhegaaGreatDoor.val (o.drop (j+1))=V
 have e2:m*(4294967296*V)=4294967296*(m*V):=Nat.mul_left_comm _ _ _
 generalize m*V=mV at *
 first
  | (rw [Nat.mul_add m,e2];omega)
  | (rw [Nat.add_comm q,Nat.mul_add m,e2];omega)
theorem OvI.done {xs:List Nat} {m:Nat} {o:List Nat} {rs a:Nat} (h:OvI xs m 0 o rs) (ha:Proofs.YtfhcmggpojhegaaGreatDoor.val xs=a):Proofs.YtfhcmggpojhegaaGreatDoor.val o=a/m∧rs=a%m:=by
 have h1:=h.val
 rw [List.drop_zero,List.drop_zero,ha] at h1
 have hm:0<m:=Nat.lt_of_le_of_lt (Nat.zero_le _) h.rest
 constructor
 · rw [h1,Nat.mul_add_div hm,Nat.div_eq_of_lt h.rest,Nat.add_zero]
 · rw [h1,Nat.mul_add_mod,Nat.mod_eq_of_lt h.rest]
end Go.Proofs.YtfhcmggpojhegaaGreatDoor
/- The document's Step: a natural times a small number, and another one. -/
namespace Go.Proofs.YtfhcmggpojhegaaGreatDoor
open Go.RowKit
set_option linter.unusedVariables false
set_option maxHeartbeats 400000
attribute [local go_sem ↓] fU
attribute [local go_sem] bY
structure StI (xs:List Nat) (m d i:Nat) (o:List Nat) (rs:Nat):Prop where
 len:o.length=i
 lt:∀ x∈o,x<4294967296
 val:Proofs.YtfhcmggpojhegaaGreatDoor.val o+rs*4294967296^i=Proofs.YtfhcmggpojhegaaGreatDoor.val (xs.take i)*m+d
theorem StI.step {xs:List Nat} {m d i:Nat} {o:List Nat} {rs:Nat} (h:StI xs m d i o rs) (hi:i<xs.length) (x n q r:Nat) (hx:lb xs i=x) (hn:x*m+rs=n) (hq:n/4294967296=q) (hr:n%4294967296=r) :
  StI xs m d (i+1) (o++[r]) q:=by
 refine ⟨by rw [List.length_append,h.len];rfl,qZ h.lt (by rw [← hr];exact Nat.mod_lt _ (by decide)),?_⟩
 rw [vR,h.len,jU xs i hi,hx,Nat.add_mul,Nat.pow_succ]
 have hv:=h.val
 have e:4294967296*q+r=n:=by rw [← hq,← hr];exact Nat.div_add_mod n 4294967296
 generalize 4294967296^i=P at *
 have e1:q*(P*4294967296)=(4294967296*q)*P:=by rw [Nat.mul_comm P,← Nat.mul_assoc,Nat.mul_comm q]
 have e2:x*P*m=x*m*P:=Nat.mul_right_comm _ _ _
 rw [e1,e2]
 have e3:(4294967296*q)*P+r*P=n*P:=by rw [← Nat.add_mul,e]
 have e4:n*P=x*m*P+rs*P:=by rw [← hn,Nat.add_mul]
 omega
theorem StI.done {xs:List Nat} {m d L:Nat} {o:List Nat} {rs a:Nat} (h:StI xs m d L o rs) (hL:xs.length=L) (ha:Proofs.YtfhcmggpojhegaaGreatDoor.val xs=a):Proofs.YtfhcmggpojhegaaGreatDoor.val (o++[rs])=a*m+d:=by
 rw [vR,h.len,h.val,List.take_of_length_le (by omega),ha]
end Go.Proofs.YtfhcmggpojhegaaGreatDoor
/- Rows of bytes that grow; what is kept meanwhile. -/
namespace Go.Proofs.YtfhcmggpojhegaaGreatDoor
open Go.RowKit
set_option linter.unusedVariables false
set_option maxHeartbeats 400000
def I8 (u:Value):Prop:=∃ x:Nat,u = .int .u8 (x:Nat)
theorem I8.one {u:Value} (h:I8 u):u.oneCell'=true:=by obtain ⟨x,rfl⟩:=h;rfl
structure Key (B:Nat) (w w':World):Prop where
 below:Below B w w'
 cell:∀ p v,w.cell? p=some v→¬ I8 v→w'.cell? p=some v
theorem Key.refl (B:Nat) (w:World):Key B w w:=⟨Below.refl _ _,fun _ _ h _=>h⟩
theorem Key.trans {B:Nat} {a b c:World} (h:Key B a b) (k:Key B b c):Key B a c:=⟨h.below.trans k.below,fun p v h1 h2=>k.cell p v (h.cell p v h1 h2) h2⟩
theorem Key.size {B:Nat} {a b:World} (h:Key B a b):a.heap.size≤b.heap.size:=h.below.size
structure Ry (B:Nat) (w:World) (g n cap:Nat) (es:List Value):Prop where
 lo:B≤g
 caps:n≤cap∧cap≤maxLen
 len:es.length=n
 row:∃ cur:Array Value,w.heap[g]?=some (.cells cur 5 (0,0))∧cur.size=cap∧cur.toList.take n=es∧∀ u∈cur.toList,I8 u
theorem Ry.lt {B:Nat} {w:World} {g n cap:Nat} {es:List Value} (h:Ry B w g n cap es):g<w.heap.size:=by
 obtain ⟨cur,h1,_⟩:=h.row
 exact (Array.getElem?_eq_some_iff.1 h1).1
theorem Ry.cell {B:Nat} {w:World} {g n cap:Nat} {es:List Value} (h:Ry B w g n cap es) {j:Nat} (hj:j<n):w.cell? ⟨g,j,none⟩=es[j]?:=by
 obtain ⟨cur,h1,h2,h3,h4⟩:=h.row
 rw [cell_of_row w g j _ _ _ h1,← h3,List.getElem?_take_of_lt hj,Array.getElem?_toList]
theorem Ry.of {B:Nat} {w w':World} {g n cap:Nat} {es:List Value} (h:Ry B w g n cap es) (e:w'.heap[g]?=w.heap[g]?):Ry B w' g n cap es:=by
 obtain ⟨cur,h1,h2⟩:=h.row
 exact ⟨h.lo,h.caps,h.len,cur,e.trans h1,h2⟩
theorem Ry.new (B:Nat) (w:World) (hB:B≤w.heap.size):Ry B (w.alloc (.cells #[] 5)) w.heap.size 0 0 [] :=
 ⟨hB,⟨Nat.le_refl _,by unfold maxLen;omega⟩,rfl,#[],heap_alloc_new w _,rfl,rfl,fun u hu=>by simp at hu⟩
theorem Ry.but {B:Nat} {w:World} {g n cap:Nat} {es:List Value} (h:Ry B w g n cap es) (j:Nat) (v:Value):Below B w (w.setCell ⟨g,j,none⟩ v) :=
 ⟨rfl,rfl,rfl,by simp [World.setCell],fun k hk=>heap_setCell_other w ⟨g,j,none⟩ k v (by have:=h.lo;show k≠g;omega)⟩
end Go.Proofs.YtfhcmggpojhegaaGreatDoor
/- The document's Text and Count. -/
namespace Go.Proofs.YtfhcmggpojhegaaGreatDoor
open Go.RowKit
set_option linter.unusedVariables false
set_option maxHeartbeats 400000
attribute [local go_sem ↓] fU
attribute [local go_sem] bY
structure TxI (b a0 a:Nat) (ds:List Nat):Prop where
 spl:nd b a0=nd b a++ds.reverse
 lt:∀ d∈ds,d<b
theorem TxI.step {b a0 a:Nat} {ds:List Nat} (h:TxI b a0 a ds) (hb:2≤b) (ha:a≠0) (q r:Nat) (hq:a/b=q) (hr:a%b=r):r<b∧ds.length<(nd b a0).length∧TxI b a0 q (ds++[r]):=by
 have hrb:r<b:=by rw [← hr];exact Nat.mod_lt _ (by omega)
 have e:=PI ha hb
 refine ⟨hrb,?_,?_,fun d hd=>?_⟩
 · rw [h.spl,List.length_append,List.length_reverse,e,List.length_append]
   simp
 · rw [h.spl,e,hq,hr,List.reverse_append]
   simp
 · rcases List.mem_append.1 hd with h1 | h1
   · exact h.lt d h1
   · simp at h1;omega
structure RvI (l:List Nat) (i:Nat) (o:List Nat):Prop where
 len:o.length=l.length
 at_:∀ j,j<l.length→lb o j=if j<i∨l.length-1-j<i then lb l (l.length-1-j) else lb l j
theorem RvI.step {l:List Nat} {i:Nat} {o:List Nat} (h:RvI l i o) (hi:i<l.length/2) (x y n:Nat) (hn:l.length=n) (hx:lb o i=x) (hy:lb o (n-1-i)=y):RvI l (i+1) ((o.set i y).set (n-1-i) x):=by
 subst hn
 have h1:=h.at_ i (by omega)
 have h2:=h.at_ (l.length-1-i) (by omega)
 rw [if_neg (by omega),hx] at h1
 rw [if_neg (by omega),hy] at h2
 refine ⟨by rw [List.length_set,List.length_set];exact h.len,fun j hj=>?_⟩
 rw [iT _ _ _ _ (by rw [List.length_set,h.len];omega),iT _ _ _ _ (by rw [h.len];omega)]
 by_cases e1:l.length-1-i=j
 · rw [if_pos e1,if_pos (by omega),h1]
   congr 1;omega
 · rw [if_neg e1]
   by_cases e2:i=j
   · rw [if_pos e2,if_pos (by omega),h2]
     congr 1;omega
   · rw [if_neg e2,h.at_ j hj]
     by_cases c:j<i∨l.length-1-j<i
     · rw [if_pos c,if_pos (by omega)]
     · rw [if_neg c,if_neg (by omega)]
theorem RvI.done {l:List Nat} {i:Nat} {o:List Nat} (h:RvI l i o) (hi:l.length/2=i):o=l.reverse:=by
 refine kZ (by rw [h.len,List.length_reverse]) fun j hj=>?_
 have hj2:j<l.length:=by rw [← h.len];exact hj
 have e:lb l.reverse j=lb l (l.length-1-j):=by
  unfold lb
  rw [List.getElem?_reverse hj2]
 rw [h.at_ j hj2,e]
 by_cases c:j<i∨l.length-1-j<i
 · rw [if_pos c]
 · rw [if_neg c]
   congr 1;omega
end Go.Proofs.YtfhcmggpojhegaaGreatDoor
/- The document's Count, Digits, Bare. -/
namespace Go.Proofs.YtfhcmggpojhegaaGreatDoor
open Go.RowKit
set_option linter.unusedVariables false
set_option maxHeartbeats 400000
attribute [local go_sem ↓] fU
attribute [local go_sem] bY
def mk (S:ByteArray) (b:Nat):List Nat:=S.data.toList.map fun c=>c.toNat%b
end Go.Proofs.YtfhcmggpojhegaaGreatDoor
/- What is written, what is read: the laws' own questions. -/
namespace Go.Proofs.YtfhcmggpojhegaaGreatDoor
open Go.RowKit
set_option linter.unusedVariables false
set_option maxHeartbeats 400000
theorem JG (w:World) (S:ByteArray) (b n:Nat) (h2:2≤b) (Tf:b≤36) (hl:S.size≤19000) (hM:(limbs (b^S.size)).length≤398) (h0:S.size≠0) (hd:∀ d∈qR S,d<b) (hn:fF b (qR S)=n) :
  Calls Tryz.prog 40 #[.string S,.int .i64 (b:Nat)] w fun e w'=>∃ u,e = .returned (.tuple #[u,.int .i64 0,.int .i64 0])∧Un w' u n∧Ext w w':=by
 refine (QI w S b h2 Tf hl hM).mono fun e w' h=>?_
 rcases h with ⟨i,hi,_,hb,_⟩ | ⟨h,_⟩ | ⟨_,_,u,he,hu,hE⟩
 · exfalso
   have:=hd _ (Qy (qR S) i (by rw [Fq];exact hi))
   omega
 · exact absurd h h0
 · exact ⟨u,he,by rw [← hn];exact hu,hE⟩
theorem ahf (b a:Nat) (ds:List Nat) (hb:2≤b) (hd:∀ d∈ds,d<b) (hv:fF b ds=a) (h0:gQ ds=ds) (hne:ds≠[]) (S:ByteArray) (hS:gD ds=S):gD (dt b a)=S:=by
 rw [← hv,ac7 b hb ds hd,h0,if_neg hne,hS]
end Go.Proofs.YtfhcmggpojhegaaGreatDoor
/- The laws' questions at any base and any text: the program's answers and the document's are told alike. -/
namespace Go.Proofs.YtfhcmggpojhegaaGreatDoor
open Go.RowKit
set_option linter.unusedVariables false
set_option maxHeartbeats 400000
def RdF (f:FuncId) (S:ByteArray) (b:Int) (xs:List Nat) (at_ c:Int):Prop :=
 ∀ w,Calls Tryz.prog f #[.string S,.int .i64 b] w fun e w'=>∃ u,e = .returned (.tuple #[u,.int .i64 at_,.int .i64 c])∧U w' u xs∧Ext w w'
end Go.Proofs.YtfhcmggpojhegaaGreatDoor
/- Whole numbers: their texts. -/
namespace Go.Proofs.YtfhcmggpojhegaaGreatDoor
open Go.RowKit
set_option linter.unusedVariables false
set_option maxHeartbeats 400000
def Pj (S:ByteArray):Nat:=if h:0<S.size then (if (S[0]'h).toNat=45 then 1 else 0) else 0
theorem ahd (S:ByteArray):Pj S≤1∧Pj S≤S.size:=by
 unfold Pj
 split
 · split<;>omega
 · omega
set_option maxRecDepth 100000 in
set_option maxHeartbeats 8000000 in
theorem Yj (w:World) (S:ByteArray) (hl:S.size≤1000000) (xs:List Nat) (at_ c:Int) (hR:RdF 40 (S.extract (Pj S) S.size) 10 xs at_ c) (hat:0≤at_∧at_≤1000000) (hc:c=0→at_=0) :
  Calls Tryz.prog 45 #[.string S] w fun e w'=>Ext w w'∧((c≠0∧e = .returned (.tuple #[.agg #[.bool false,.slice none 0 0],.int .i64 ((Pj S:Nat)+at_),.int .i64 c]))∨(c=0∧∃ u,e = .returned (.tuple #[u,.int .i64 0,.int .i64 0])∧Zn w' u (sg (decide (Pj S=1)) (val xs)))):=by
 have hle:=ahd S
 have hE0:=(Ext.refl w).alloc (.cells #[.bool false,.slice none 0 0] 48)
 have hI0:=Ib.new w false (.slice none 0 0) 48
 have hie:=Ac S
 have hcase:(Pj S=0∧S.size=0)∨(∃ k:0<S.size,∃ x,(S[0]'k).toNat=x∧x≠45∧Pj S=0)∨(∃ k:0<S.size,(S[0]'k).toNat=45∧Pj S=1):=by
  unfold Pj
  by_cases k:0<S.size
  · rw [dif_pos k]
    by_cases k2:(S[0]'k).toNat=45
    · rw [if_pos k2]
      exact .inr (.inr ⟨k,k2,rfl⟩)
    · rw [if_neg k2]
      exact .inr (.inl ⟨k,_,rfl,k2,rfl⟩)
  · rw [dif_neg k]
    exact .inl ⟨rfl,by omega⟩
 have hT0:S.extract 0 S.size=S:=by
  apply ByteArray.ext
  simp
 obtain ⟨T,hT⟩:∃ T,S.extract (Pj S) S.size=T:=⟨_,rfl⟩
 have hRd:=Lib.hid hR
 rw [hT] at hRd
 have Vy:=Lib.hid (fun W b v g=>iq W b v xs g (val xs) rfl _ rfl)
 obtain ⟨arZ,ar0⟩:=hat
 rcases hcase with ⟨h,h0⟩ | ⟨k,x,hx,azr,h⟩ | ⟨k,hx,h⟩
 case' inl =>
  rw [h,hT0] at hT
  subst hT
  have HA:Hid (Pj S=0):=h
  rw [h0] at hie
  have adr:S.toList.isEmpty=true:=by rw [hie];rfl
  clear h0
  have hM:=Lib.hid (Vy.out · false)
 case' inr.inl =>
  rw [h,hT0] at hT
  subst hT
  have HA:Hid (Pj S=0):=h
  have adr:S.toList.isEmpty=false:=by rw [hie];exact decide_eq_false (by omega)
  have hx2:¬ ((x:Int)=45):=by omega
  have hx3:((x:Int)==45)=false:=by rw [beq_eq_false_iff_ne];exact hx2
  have hM:=Lib.hid (Vy.out · false)
 case' inr.inr =>
  rw [h] at hT
  have HA:Hid (Pj S=1):=h
  have adr:S.toList.isEmpty=false:=by rw [hie];exact decide_eq_false (by omega)
  have hM:=Lib.hid (Vy.out · true)
  have hk1:1≤S.size:=by omega
 all_goals (
  clear hR hle hie Vy h
  by_cases hc0:c=0
  · have ha0:=hc hc0
    subst hc0
    subst ha0
    clear hc arZ ar0 hl
    go_enter Tryz.func45,Tryz.ntmps45
    go_wp2_with (first
     | (go_at_call 40;refine (hRd.out _).mono ?_;rintro e w2 ⟨u,rfl,hu2,hE2⟩;obtain ⟨A2,l2,c2,rfl⟩:=U.sl hu2)
     | (go_at_call 35;refine (hM.out _ _ hu2).mono ?_;rintro e w3 ⟨u,rfl,hz3,bJ⟩;obtain ⟨b3,A3,L3,c3,rfl⟩:=hz3.sh;have kH:=(hI0.ext hE2).ext bJ;obtain ⟨i0,i1,i2,i3,i4⟩:=id kH))
    (try simp only [Exit.inBlock,Exit.then])
    refine bodyPost_ret (v:=.tuple #[.agg #[.bool b3,.slice A3 L3 c3],.int .i64 0,.int .i64 0]) (show (results _ _).run _ _=_ from ?_) rfl ⟨((hE0.below hE2).below bJ).dA (by omega) _ _,.inr ⟨by trivial,_,rfl,by rw [HA.out];exact hz3.dA kH (aP _ _ _) _ _⟩⟩
    simp only [results]
    go_simp
  · have hcn:(c != 0)=true:=by rw [bne_iff_ne];exact hc0
    have HC:=Lib.hid hc0
    clear hc hc0 hM
    go_enter Tryz.func45,Tryz.ntmps45
    go_wp2_with (first
     | (go_at_call 40;refine (hRd.out _).mono ?_;rintro e w2 ⟨u,rfl,hu2,hE2⟩;obtain ⟨A2,l2,c2,rfl⟩:=U.sl hu2;obtain ⟨i0,i1,i2,i3,i4⟩:=hI0.ext hE2))
    (try simp only [Exit.inBlock,Exit.then])
    refine bodyPost_ret (v:=.tuple #[.agg #[.bool false,.slice none 0 0],.int .i64 ((Pj S:Nat)+at_),.int .i64 c]) (show (results _ _).run _ _=_ from ?_) rfl ⟨(hE0.below hE2).dA (by omega) _ _,.inl ⟨HC.out,rfl⟩⟩
    rw [HA.out]
    simp only [results]
    go_simp)
end Go.Proofs.YtfhcmggpojhegaaGreatDoor
